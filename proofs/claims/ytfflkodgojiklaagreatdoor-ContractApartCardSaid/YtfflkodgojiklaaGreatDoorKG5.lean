/-
  Joined: PgB4 PgC1 PgC2.
-/
import Derived.Test.YtfflkodgojiklaaGreatDoorKG3
import Derived.Test.YtfflkodgojiklaaGreatDoorKG4
namespace Go.Proofs.YtfflkodgojiklaaGreatDoor

section
open Go.RowKit
theorem ixF_some {α : Type} {p : α → Bool} {l : List α} {i : Nat} (h : l.findIdx? p = some i) : ixF p l = (i : Int) := by unfold ixF; rw [h]
theorem ixF_none {α : Type} {p : α → Bool} {l : List α} (h : l.findIdx? p = none) : ixF p l = -1 := by unfold ixF; rw [h]

set_option maxHeartbeats 8000000 in
set_option maxRecDepth 100000 in
theorem placeL_any (ls : List Lt) (A : Option Addr) (n c : Nat) (k : List UInt8) (w : World) (h : Sl w 6 A n (ls.map Lt.cells)) (hn : n ≤ 1000000) :
    Calls Tryz.prog 69 #[.slice A n c, .string (ba k), .func (.func 55) #[] #[]] w fun e w' => e = .returned (.tuple #[.int .i64 ((plc (fun x : Lt => cmpS x.nm k) ls).1 : Nat), .bool (plc (fun x : Lt => cmpS x.nm k) ls).2]) ∧ Below w.heap.size w w' := by
  have hlen : ls.length = n := by simpa using h.len
  have hrise : ∀ W, Below w.heap.size w W → Calls Tryz.prog 98 #[.slice A n c, .func (.func 55) #[] #[]] W fun e w' => e = .returned (.bool (ris (fun a b : Lt => ltS a.nm b.nm) ls)) ∧ Below W.heap.size W w' := fun W hW => risesL_any ls A n c W (h.through hW) hn
  have h2 : ∀ (W : World) (gk g8 g4 : Nat), Below w.heap.size w W → Blk W gk 99 [.func (.func 55) #[] #[]] → Blk W g8 134 [.func (.func 96) #[] #[.pointer (some ⟨gk, 0, none⟩)]] → Blk W g4 9 [.string (ba k)] → Calls Tryz.prog 100 #[.slice A n c, .func (.func 101) #[] #[.pointer (some ⟨g8, 0, none⟩), .pointer (some ⟨g4, 0, none⟩)]] W fun e w' => e = .returned (.int .i64 (ixF (fun x : Lt => cmpS x.nm k == 0) ls)) ∧ Below W.heap.size W w' := fun W gk g8 g4 hW hk h8 h4 => idx2L_any ls A n c k gk g8 g4 W (h.through hW) hn hk h8 h4
  have h3 : ∀ (W : World) (gk g8 g4 : Nat), Below w.heap.size w W → Blk W gk 99 [.func (.func 55) #[] #[]] → Blk W g8 134 [.func (.func 96) #[] #[.pointer (some ⟨gk, 0, none⟩)]] → Blk W g4 9 [.string (ba k)] → Calls Tryz.prog 100 #[.slice A n c, .func (.func 102) #[] #[.pointer (some ⟨g8, 0, none⟩), .pointer (some ⟨g4, 0, none⟩)]] W fun e w' => e = .returned (.int .i64 (ixF (fun x : Lt => decide (0 < cmpS x.nm k)) ls)) ∧ Below W.heap.size W w' := fun W gk g8 g4 hW hk h8 h4 => idx3L_any ls A n c k gk g8 g4 W (h.through hW) hn hk h8 h4
  have hb : ris (fun a b : Lt => ltS a.nm b.nm) ls = true → ∀ (W : World) (gk : Nat), Below w.heap.size w W → Blk W gk 99 [.func (.func 55) #[] #[]] → Calls Tryz.prog 99 #[.slice A n c, .string (ba k), .func (.func 96) #[] #[.pointer (some ⟨gk, 0, none⟩)]] W fun e w' => e = .returned (.tuple #[.int .i64 ((plc (fun x : Lt => cmpS x.nm k) ls).1 : Nat), .bool (plc (fun x : Lt => cmpS x.nm k) ls).2]) ∧ Below W.heap.size W w' := fun hr W gk hW hk => halveL_any ls A n c k gk W (h.through hW) hn hk hr
  obtain ⟨bb, hbb⟩ : ∃ bb, plc (fun x : Lt => cmpS x.nm k) ls = bb := ⟨_, rfl⟩
  rw [hbb] at hb ⊢
  have HBB := Lib.hid hbb
  have HLn := Lib.hid hlen
  clear h hbb hlen
  cases hr : ris (fun a b : Lt => ltS a.nm b.nm) ls with
  | true =>
    rw [hr] at hrise
    have HR := Lib.hid hrise
    have HB := Lib.hid (hb hr)
    clear hrise hb h2 h3 hr
    go_enter Tryz.func69, Tryz.ntmps69
    go_wp2_with (first
      | (refine wpList_store_cell rfl 134 (.tmp 8) (.tmp 11) rfl (w.heap.size + 1 + 1) 0 rfl (.func (.func 96) #[] #[.pointer (some ⟨w.heap.size + 1, 0, none⟩)]) rfl rfl rfl (fun w => by kernel_rfl) 134 [.nilFunc] (Blk.fresh (by simp) rfl) (by simp) ?_; intro w3 hb3 hg3; have HX3 : Hid (Below w.heap.size w w3) := Lib.hid (((below2 w (.cells #[.string (ba k)] 9) (.cells #[.func (.func 55) #[] #[]] 99)).alloc (by simp; omega) (.cells #[.nilFunc] 134)).grown hg3 (by simp; omega) (fun q hq => by have := Option.some.inj hq; omega)); have H8 : Hid (Blk w3 (w.heap.size + 1 + 1) 134 [.func (.func 96) #[] #[.pointer (some ⟨w.heap.size + 1, 0, none⟩)]]) := Lib.hid hb3; have H5 : Hid (Blk w3 (w.heap.size + 1) 99 [.func (.func 55) #[] #[]]) := Lib.hid (((Blk.fresh (by simp) rfl : Blk ((w.alloc (.cells #[.string (ba k)] 9)).alloc (.cells #[.func (.func 55) #[] #[]] 99)) (w.heap.size + 1) 99 [.func (.func 55) #[] #[]]).alloc (.cells #[.nilFunc] 134)).grown hg3 (by simp)); have H4 : Hid (Blk w3 w.heap.size 9 [.string (ba k)]) := Lib.hid ((((Blk.fresh rfl rfl : Blk (w.alloc (.cells #[.string (ba k)] 9)) w.heap.size 9 [.string (ba k)]).alloc (.cells #[.func (.func 55) #[] #[]] 99)).alloc (.cells #[.nilFunc] 134)).grown hg3 (by simp; omega)); have c5 := H5.out.cellAt (i := 0) rfl; clear hb3 hg3)
      | (go_at_call 98; (with_reducible refine (HR.out _ HX3.out).mono ?_); rintro e w4 ⟨rfl, hb4⟩; have HX4 : Hid (Below w.heap.size w w4) := Lib.hid (below_step HX3.out hb4); have K4 := Lib.hid (H4.out.through hb4); have K5 := Lib.hid (H5.out.through hb4); have K8 := Lib.hid (H8.out.through hb4); have c4 := K4.out.cellAt (i := 0) rfl; have c8 := K8.out.cellAt (i := 0) rfl; clear hb4)
      | (go_at_call 99; (with_reducible refine (HB.out _ _ HX4.out K5.out).mono ?_); rintro e w5 ⟨rfl, hb5⟩; have HX5 : Hid (Below w.heap.size w w5) := Lib.hid (below_step HX4.out hb5); clear hb5))
    go_ret2
    exact ⟨rfl, HX5.out⟩
  | false =>
    rw [hr] at hrise
    have HR := Lib.hid hrise
    clear hrise hb hr
    cases he : ls.findIdx? (fun x : Lt => cmpS x.nm k == 0) with
    | some i =>
      have hp : bb = (i, true) := by rw [← HBB.out]; unfold plc; rw [he]
      have hv : ixF (fun x : Lt => cmpS x.nm k == 0) ls = (i : Int) := ixF_some he
      rw [hv] at h2
      have H2 := Lib.hid h2
      clear h2 h3 he hv
      subst hp
      go_enter Tryz.func69, Tryz.ntmps69
      go_wp2_with (first
        | (refine wpList_store_cell rfl 134 (.tmp 8) (.tmp 11) rfl (w.heap.size + 1 + 1) 0 rfl (.func (.func 96) #[] #[.pointer (some ⟨w.heap.size + 1, 0, none⟩)]) rfl rfl rfl (fun w => by kernel_rfl) 134 [.nilFunc] (Blk.fresh (by simp) rfl) (by simp) ?_; intro w3 hb3 hg3; have HX3 : Hid (Below w.heap.size w w3) := Lib.hid (((below2 w (.cells #[.string (ba k)] 9) (.cells #[.func (.func 55) #[] #[]] 99)).alloc (by simp; omega) (.cells #[.nilFunc] 134)).grown hg3 (by simp; omega) (fun q hq => by have := Option.some.inj hq; omega)); have H8 : Hid (Blk w3 (w.heap.size + 1 + 1) 134 [.func (.func 96) #[] #[.pointer (some ⟨w.heap.size + 1, 0, none⟩)]]) := Lib.hid hb3; have H5 : Hid (Blk w3 (w.heap.size + 1) 99 [.func (.func 55) #[] #[]]) := Lib.hid (((Blk.fresh (by simp) rfl : Blk ((w.alloc (.cells #[.string (ba k)] 9)).alloc (.cells #[.func (.func 55) #[] #[]] 99)) (w.heap.size + 1) 99 [.func (.func 55) #[] #[]]).alloc (.cells #[.nilFunc] 134)).grown hg3 (by simp)); have H4 : Hid (Blk w3 w.heap.size 9 [.string (ba k)]) := Lib.hid ((((Blk.fresh rfl rfl : Blk (w.alloc (.cells #[.string (ba k)] 9)) w.heap.size 9 [.string (ba k)]).alloc (.cells #[.func (.func 55) #[] #[]] 99)).alloc (.cells #[.nilFunc] 134)).grown hg3 (by simp; omega)); have c5 := H5.out.cellAt (i := 0) rfl; clear hb3 hg3)
        | (go_at_call 98; (with_reducible refine (HR.out _ HX3.out).mono ?_); rintro e w4 ⟨rfl, hb4⟩; have HX4 : Hid (Below w.heap.size w w4) := Lib.hid (below_step HX3.out hb4); have K4 := Lib.hid (H4.out.through hb4); have K5 := Lib.hid (H5.out.through hb4); have K8 := Lib.hid (H8.out.through hb4); have c4 := K4.out.cellAt (i := 0) rfl; have c8 := K8.out.cellAt (i := 0) rfl; clear hb4)
        | (go_at_call 100; (with_reducible refine (H2.out _ _ _ _ HX4.out K5.out K8.out K4.out).mono ?_); rintro e w5 ⟨rfl, hb5⟩; have HX5 : Hid (Below w.heap.size w w5) := Lib.hid (below_step HX4.out hb5); have M4 := Lib.hid (K4.out.through hb5); have M5 := Lib.hid (K5.out.through hb5); have M8 := Lib.hid (K8.out.through hb5); clear hb5))
      go_ret2
      exact ⟨rfl, HX5.out⟩
    | none =>
      have hp : bb = (ls.findIdx (fun x : Lt => decide (0 < cmpS x.nm k)), false) := by rw [← HBB.out]; unfold plc; rw [he]
      have hv : ixF (fun x : Lt => cmpS x.nm k == 0) ls = -1 := ixF_none he
      rw [hv] at h2
      have H2 := Lib.hid h2
      clear h2 he hv
      cases hg : ls.findIdx? (fun x : Lt => decide (0 < cmpS x.nm k)) with
      | some i =>
        have hv : ixF (fun x : Lt => decide (0 < cmpS x.nm k)) ls = (i : Int) := ixF_some hg
        rw [hv] at h3
        have H3 := Lib.hid h3
        rw [(findIdx_of_some hg).1] at hp
        clear h3 hg hv
        subst hp
        go_enter Tryz.func69, Tryz.ntmps69
        go_wp2_with (first
          | (refine wpList_store_cell rfl 134 (.tmp 8) (.tmp 11) rfl (w.heap.size + 1 + 1) 0 rfl (.func (.func 96) #[] #[.pointer (some ⟨w.heap.size + 1, 0, none⟩)]) rfl rfl rfl (fun w => by kernel_rfl) 134 [.nilFunc] (Blk.fresh (by simp) rfl) (by simp) ?_; intro w3 hb3 hg3; have HX3 : Hid (Below w.heap.size w w3) := Lib.hid (((below2 w (.cells #[.string (ba k)] 9) (.cells #[.func (.func 55) #[] #[]] 99)).alloc (by simp; omega) (.cells #[.nilFunc] 134)).grown hg3 (by simp; omega) (fun q hq => by have := Option.some.inj hq; omega)); have H8 : Hid (Blk w3 (w.heap.size + 1 + 1) 134 [.func (.func 96) #[] #[.pointer (some ⟨w.heap.size + 1, 0, none⟩)]]) := Lib.hid hb3; have H5 : Hid (Blk w3 (w.heap.size + 1) 99 [.func (.func 55) #[] #[]]) := Lib.hid (((Blk.fresh (by simp) rfl : Blk ((w.alloc (.cells #[.string (ba k)] 9)).alloc (.cells #[.func (.func 55) #[] #[]] 99)) (w.heap.size + 1) 99 [.func (.func 55) #[] #[]]).alloc (.cells #[.nilFunc] 134)).grown hg3 (by simp)); have H4 : Hid (Blk w3 w.heap.size 9 [.string (ba k)]) := Lib.hid ((((Blk.fresh rfl rfl : Blk (w.alloc (.cells #[.string (ba k)] 9)) w.heap.size 9 [.string (ba k)]).alloc (.cells #[.func (.func 55) #[] #[]] 99)).alloc (.cells #[.nilFunc] 134)).grown hg3 (by simp; omega)); have c5 := H5.out.cellAt (i := 0) rfl; clear hb3 hg3)
          | (go_at_call 98; (with_reducible refine (HR.out _ HX3.out).mono ?_); rintro e w4 ⟨rfl, hb4⟩; have HX4 : Hid (Below w.heap.size w w4) := Lib.hid (below_step HX3.out hb4); have K4 := Lib.hid (H4.out.through hb4); have K5 := Lib.hid (H5.out.through hb4); have K8 := Lib.hid (H8.out.through hb4); have c4 := K4.out.cellAt (i := 0) rfl; have c8 := K8.out.cellAt (i := 0) rfl; clear hb4)
          | (go_at_call 100; (with_reducible refine (H2.out _ _ _ _ HX4.out K5.out K8.out K4.out).mono ?_); rintro e w5 ⟨rfl, hb5⟩; have HX5 : Hid (Below w.heap.size w w5) := Lib.hid (below_step HX4.out hb5); have M4 := Lib.hid (K4.out.through hb5); have M5 := Lib.hid (K5.out.through hb5); have M8 := Lib.hid (K8.out.through hb5); clear hb5)
          | (go_at_call 100; (with_reducible refine (H3.out _ _ _ _ HX5.out M5.out M8.out M4.out).mono ?_); rintro e w6 ⟨rfl, hb6⟩; have HX6 : Hid (Below w.heap.size w w6) := Lib.hid (below_step HX5.out hb6); clear hb6))
        go_ret2
        exact ⟨rfl, HX6.out⟩
      | none =>
        have hv : ixF (fun x : Lt => decide (0 < cmpS x.nm k)) ls = -1 := ixF_none hg
        rw [hv] at h3
        have H3 := Lib.hid h3
        rw [findIdx_of_none hg, HLn.out] at hp
        clear h3 hg hv
        subst hp
        go_enter Tryz.func69, Tryz.ntmps69
        go_wp2_with (first
          | (refine wpList_store_cell rfl 134 (.tmp 8) (.tmp 11) rfl (w.heap.size + 1 + 1) 0 rfl (.func (.func 96) #[] #[.pointer (some ⟨w.heap.size + 1, 0, none⟩)]) rfl rfl rfl (fun w => by kernel_rfl) 134 [.nilFunc] (Blk.fresh (by simp) rfl) (by simp) ?_; intro w3 hb3 hg3; have HX3 : Hid (Below w.heap.size w w3) := Lib.hid (((below2 w (.cells #[.string (ba k)] 9) (.cells #[.func (.func 55) #[] #[]] 99)).alloc (by simp; omega) (.cells #[.nilFunc] 134)).grown hg3 (by simp; omega) (fun q hq => by have := Option.some.inj hq; omega)); have H8 : Hid (Blk w3 (w.heap.size + 1 + 1) 134 [.func (.func 96) #[] #[.pointer (some ⟨w.heap.size + 1, 0, none⟩)]]) := Lib.hid hb3; have H5 : Hid (Blk w3 (w.heap.size + 1) 99 [.func (.func 55) #[] #[]]) := Lib.hid (((Blk.fresh (by simp) rfl : Blk ((w.alloc (.cells #[.string (ba k)] 9)).alloc (.cells #[.func (.func 55) #[] #[]] 99)) (w.heap.size + 1) 99 [.func (.func 55) #[] #[]]).alloc (.cells #[.nilFunc] 134)).grown hg3 (by simp)); have H4 : Hid (Blk w3 w.heap.size 9 [.string (ba k)]) := Lib.hid ((((Blk.fresh rfl rfl : Blk (w.alloc (.cells #[.string (ba k)] 9)) w.heap.size 9 [.string (ba k)]).alloc (.cells #[.func (.func 55) #[] #[]] 99)).alloc (.cells #[.nilFunc] 134)).grown hg3 (by simp; omega)); have c5 := H5.out.cellAt (i := 0) rfl; clear hb3 hg3)
          | (go_at_call 98; (with_reducible refine (HR.out _ HX3.out).mono ?_); rintro e w4 ⟨rfl, hb4⟩; have HX4 : Hid (Below w.heap.size w w4) := Lib.hid (below_step HX3.out hb4); have K4 := Lib.hid (H4.out.through hb4); have K5 := Lib.hid (H5.out.through hb4); have K8 := Lib.hid (H8.out.through hb4); have c4 := K4.out.cellAt (i := 0) rfl; have c8 := K8.out.cellAt (i := 0) rfl; clear hb4)
          | (go_at_call 100; (with_reducible refine (H2.out _ _ _ _ HX4.out K5.out K8.out K4.out).mono ?_); rintro e w5 ⟨rfl, hb5⟩; have HX5 : Hid (Below w.heap.size w w5) := Lib.hid (below_step HX4.out hb5); have M4 := Lib.hid (K4.out.through hb5); have M5 := Lib.hid (K5.out.through hb5); have M8 := Lib.hid (K8.out.through hb5); clear hb5)
          | (go_at_call 100; (with_reducible refine (H3.out _ _ _ _ HX5.out M5.out M8.out M4.out).mono ?_); rintro e w6 ⟨rfl, hb6⟩; have HX6 : Hid (Below w.heap.size w w6) := Lib.hid (below_step HX5.out hb6); clear hb6))
        go_ret2
        exact ⟨rfl, HX6.out⟩

set_option maxHeartbeats 8000000 in
set_option maxRecDepth 100000 in
theorem getL_any (ls : List Lt) (A : Option Addr) (n c : Nat) (k : List UInt8) (w : World) (h : Sl w 6 A n (ls.map Lt.cells)) (hn : n ≤ 1000000) :
    Calls Tryz.prog 54 #[.slice A n c, .string (ba k), .func (.func 55) #[] #[]] w fun e w' => e = .returned (.tuple #[.agg (findR (getP (fun x : Lt => cmpS x.nm k) ls)).1.cells.toArray, .bool (findR (getP (fun x : Lt => cmpS x.nm k) ls)).2]) ∧ Below w.heap.size w w' := by
  have HI := Lib.hid h
  have hz := Tryz.zero_lt
  have HIX := Lib.hid Tryz.ix_lt
  have hp : ∀ W, Below w.heap.size w W → Calls Tryz.prog 69 #[.slice A n c, .string (ba k), .func (.func 55) #[] #[]] W fun e w' => e = .returned (.tuple #[.int .i64 ((plc (fun x : Lt => cmpS x.nm k) ls).1 : Nat), .bool (plc (fun x : Lt => cmpS x.nm k) ls).2]) ∧ Below W.heap.size W w' := fun W hW => placeL_any ls A n c k W (h.through hW) hn
  have hlen : ls.length = n := by simpa using h.len
  cases hf : (plc (fun x : Lt => cmpS x.nm k) ls).2 with
  | true =>
    obtain ⟨x, hx, _⟩ := plc_lt hf
    have hg : getP (fun x : Lt => cmpS x.nm k) ls = some x := by unfold getP; rw [hf, if_pos rfl, hx]
    rw [hg]
    simp only [hf] at hp
    generalize (plc (fun x : Lt => cmpS x.nm k) ls).1 = i at *
    have HP := Lib.hid hp
    have hi : i < n := by have := (List.getElem?_eq_some_iff.1 hx).1; omega
    obtain ⟨g, o, x', rfl, hx', _⟩ := h.at_lt hi
    obtain rfl : x = x' := by rw [hx] at hx'; exact Option.some.inj hx'
    have HXi := Lib.hid hx
    have hix := fun W => HIX.out W g o n c i hi
    have HA : Hid (∀ W, Below w.heap.size w W → W.rangeAt g (o + i * 6) x.cells) := Lib.hid fun W hW => by
      obtain ⟨g2, o2, x2, e2, hx2, _, _, hr2⟩ := (HI.out.through hW).at_lt hi
      obtain ⟨rfl, rfl⟩ : g = g2 ∧ o = o2 := by simpa using e2
      obtain rfl : x = x2 := by rw [HXi.out] at hx2; exact Option.some.inj hx2
      exact hr2
    clear hp hf hg h hlen hx hx'
    go_enter Tryz.func54, Tryz.ntmps54
    go_wp2_with (first
      | (go_at_call 69; (with_reducible refine (HP.out _ (below1 w _)).mono ?_); rintro e w1 ⟨rfl, hb1⟩; have HX1 : Hid (Below w.heap.size w w1) := Lib.hid ((below1 w _).trans (hb1.mono (by simp))); have H6 : Hid (Blk w1 w.heap.size 39 [.string (ba []), .int .i64 0, .int .i64 0, .int .i64 0, .string (ba []), .string (ba [])]) := Lib.hid ((Blk.fresh rfl rfl : Blk (w.alloc (.cells #[.string (ba []), .int .i64 0, .int .i64 0, .int .i64 0, .string (ba []), .string (ba [])] 39)) w.heap.size 39 [.string (ba []), .int .i64 0, .int .i64 0, .int .i64 0, .string (ba []), .string (ba [])]).through hb1); clear hb1)
      | (refine wpList_load_mid rfl 39 (.tmp 23) rfl g (o + i * 6) rfl [.string (ba x.nm), .int .i64 x.st, .int .i64 x.am, .int .i64 x.du, .string (ba x.po), .string (ba x.pa)] _ (HA.out _ HX1.out) Tryz.underlying39 rfl (by kernel_rfl) ?_)
      | (refine wpList_store_blk rfl 39 (.tmp 6) (.tmp 24) rfl w.heap.size [.string (ba x.nm), .int .i64 x.st, .int .i64 x.am, .int .i64 x.du, .string (ba x.po), .string (ba x.pa)] rfl rfl 39 [.string (ba []), .int .i64 0, .int .i64 0, .int .i64 0, .string (ba []), .string (ba [])] H6.out (by kernel_rfl) rfl (one6 _ _ _ _ _ _) ?_; intro wb hbb hgb; have HBb := Lib.hid hbb; have HXb : Hid (Below w.heap.size w wb) := Lib.hid (HX1.out.grown hgb HX1.out.size (fun k hk => by have := Option.some.inj hk; omega)); clear hbb hgb))
    (try simp only [Exit.inBlock, Exit.then]); refine bodyPost_ret (results_cell_row_tmp1 rfl _ _ w.heap.size 39 _ (0, 0) _ rfl HBb.out Tryz.underlying39 rfl (by kernel_rfl)) rfl ⟨rfl, HXb.out⟩
  | false =>
    have hg : getP (fun x : Lt => cmpS x.nm k) ls = none := by unfold getP; rw [hf]; rfl
    rw [hg]
    simp only [hf] at hp
    generalize (plc (fun x : Lt => cmpS x.nm k) ls).1 = i at *
    have HP := Lib.hid hp
    clear hp hf hg h hlen
    go_enter Tryz.func54, Tryz.ntmps54
    go_wp2_with (first
      | (go_at_call 69; (with_reducible refine (HP.out _ (below1 w _)).mono ?_); rintro e w1 ⟨rfl, hb1⟩; have HX1 : Hid (Below w.heap.size w w1) := Lib.hid ((below1 w _).trans (hb1.mono (by simp))); have H6 : Hid (Blk w1 w.heap.size 39 [.string (ba []), .int .i64 0, .int .i64 0, .int .i64 0, .string (ba []), .string (ba [])]) := Lib.hid ((Blk.fresh rfl rfl : Blk (w.alloc (.cells #[.string (ba []), .int .i64 0, .int .i64 0, .int .i64 0, .string (ba []), .string (ba [])] 39)) w.heap.size 39 [.string (ba []), .int .i64 0, .int .i64 0, .int .i64 0, .string (ba []), .string (ba [])]).through hb1); clear hb1)
      | (refine wpList_store_blk rfl 39 (.tmp 6) (.tmp 20) rfl w.heap.size [.string (ba []), .int .i64 0, .int .i64 0, .int .i64 0, .string (ba []), .string (ba [])] rfl rfl 39 [.string (ba []), .int .i64 0, .int .i64 0, .int .i64 0, .string (ba []), .string (ba [])] (H6.out.alloc _) (by kernel_rfl) rfl (one6 _ _ _ _ _ _) ?_; intro wb hbb hgb; have HBb := Lib.hid hbb; have HXb : Hid (Below w.heap.size w wb) := Lib.hid ((HX1.out.alloc HX1.out.size _).grown hgb (HX1.out.alloc HX1.out.size _).size (fun k hk => by have := Option.some.inj hk; omega)); clear hbb hgb))
    (try simp only [Exit.inBlock, Exit.then]); refine bodyPost_ret (results_cell_row_tmp1 rfl _ _ w.heap.size 39 _ (0, 0) _ rfl HBb.out Tryz.underlying39 rfl (by kernel_rfl)) rfl ⟨rfl, HXb.out⟩

set_option maxHeartbeats 8000000 in
set_option maxRecDepth 100000 in
theorem placeO_any (ls : List Oc) (A : Option Addr) (n c : Nat) (k : Int) (w : World) (h : Sl w 3 A n (ls.map Oc.cells)) (hn : n ≤ 1000000) :
    Calls Tryz.prog 67 #[.slice A n c, .int .i64 k, .func (.func 44) #[] #[]] w fun e w' => e = .returned (.tuple #[.int .i64 ((plc (fun x : Oc => cmpI x.cl k) ls).1 : Nat), .bool (plc (fun x : Oc => cmpI x.cl k) ls).2]) ∧ Below w.heap.size w w' := by
  have hlen : ls.length = n := by simpa using h.len
  have hrise : ∀ W, Below w.heap.size w W → Calls Tryz.prog 90 #[.slice A n c, .func (.func 44) #[] #[]] W fun e w' => e = .returned (.bool (ris (fun a b : Oc => decide (a.cl < b.cl)) ls)) ∧ Below W.heap.size W w' := fun W hW => risesO_any ls A n c W (h.through hW) hn
  have h2 : ∀ (W : World) (gk g8 g4 : Nat), Below w.heap.size w W → Blk W gk 87 [.func (.func 44) #[] #[]] → Blk W g8 126 [.func (.func 88) #[] #[.pointer (some ⟨gk, 0, none⟩)]] → Blk W g4 3 [.int .i64 k] → Calls Tryz.prog 92 #[.slice A n c, .func (.func 93) #[] #[.pointer (some ⟨g8, 0, none⟩), .pointer (some ⟨g4, 0, none⟩)]] W fun e w' => e = .returned (.int .i64 (ixF (fun x : Oc => cmpI x.cl k == 0) ls)) ∧ Below W.heap.size W w' := fun W gk g8 g4 hW hk h8 h4 => idx2O_any ls A n c k gk g8 g4 W (h.through hW) hn hk h8 h4
  have h3 : ∀ (W : World) (gk g8 g4 : Nat), Below w.heap.size w W → Blk W gk 87 [.func (.func 44) #[] #[]] → Blk W g8 126 [.func (.func 88) #[] #[.pointer (some ⟨gk, 0, none⟩)]] → Blk W g4 3 [.int .i64 k] → Calls Tryz.prog 92 #[.slice A n c, .func (.func 94) #[] #[.pointer (some ⟨g8, 0, none⟩), .pointer (some ⟨g4, 0, none⟩)]] W fun e w' => e = .returned (.int .i64 (ixF (fun x : Oc => decide (0 < cmpI x.cl k)) ls)) ∧ Below W.heap.size W w' := fun W gk g8 g4 hW hk h8 h4 => idx3O_any ls A n c k gk g8 g4 W (h.through hW) hn hk h8 h4
  have hb : ris (fun a b : Oc => decide (a.cl < b.cl)) ls = true → ∀ (W : World) (gk : Nat), Below w.heap.size w W → Blk W gk 87 [.func (.func 44) #[] #[]] → Calls Tryz.prog 91 #[.slice A n c, .int .i64 k, .func (.func 88) #[] #[.pointer (some ⟨gk, 0, none⟩)]] W fun e w' => e = .returned (.tuple #[.int .i64 ((plc (fun x : Oc => cmpI x.cl k) ls).1 : Nat), .bool (plc (fun x : Oc => cmpI x.cl k) ls).2]) ∧ Below W.heap.size W w' := fun hr W gk hW hk => halveO_any ls A n c k gk W (h.through hW) hn hk hr
  obtain ⟨bb, hbb⟩ : ∃ bb, plc (fun x : Oc => cmpI x.cl k) ls = bb := ⟨_, rfl⟩
  rw [hbb] at hb ⊢
  have HBB := Lib.hid hbb
  have HLn := Lib.hid hlen
  clear h hbb hlen
  cases hr : ris (fun a b : Oc => decide (a.cl < b.cl)) ls with
  | true =>
    rw [hr] at hrise
    have HR := Lib.hid hrise
    have HB := Lib.hid (hb hr)
    clear hrise hb h2 h3 hr
    go_enter Tryz.func67, Tryz.ntmps67
    go_wp2_with (first
      | (refine wpList_store_cell rfl 126 (.tmp 8) (.tmp 11) rfl (w.heap.size + 1 + 1) 0 rfl (.func (.func 88) #[] #[.pointer (some ⟨w.heap.size + 1, 0, none⟩)]) rfl rfl rfl (fun w => by kernel_rfl) 126 [.nilFunc] (Blk.fresh (by simp) rfl) (by simp) ?_; intro w3 hb3 hg3; have HX3 : Hid (Below w.heap.size w w3) := Lib.hid (((below2 w (.cells #[.int .i64 k] 3) (.cells #[.func (.func 44) #[] #[]] 87)).alloc (by simp; omega) (.cells #[.nilFunc] 126)).grown hg3 (by simp; omega) (fun q hq => by have := Option.some.inj hq; omega)); have H8 : Hid (Blk w3 (w.heap.size + 1 + 1) 126 [.func (.func 88) #[] #[.pointer (some ⟨w.heap.size + 1, 0, none⟩)]]) := Lib.hid hb3; have H5 : Hid (Blk w3 (w.heap.size + 1) 87 [.func (.func 44) #[] #[]]) := Lib.hid (((Blk.fresh (by simp) rfl : Blk ((w.alloc (.cells #[.int .i64 k] 3)).alloc (.cells #[.func (.func 44) #[] #[]] 87)) (w.heap.size + 1) 87 [.func (.func 44) #[] #[]]).alloc (.cells #[.nilFunc] 126)).grown hg3 (by simp)); have H4 : Hid (Blk w3 w.heap.size 3 [.int .i64 k]) := Lib.hid ((((Blk.fresh rfl rfl : Blk (w.alloc (.cells #[.int .i64 k] 3)) w.heap.size 3 [.int .i64 k]).alloc (.cells #[.func (.func 44) #[] #[]] 87)).alloc (.cells #[.nilFunc] 126)).grown hg3 (by simp; omega)); have c5 := H5.out.cellAt (i := 0) rfl; clear hb3 hg3)
      | (go_at_call 90; (with_reducible refine (HR.out _ HX3.out).mono ?_); rintro e w4 ⟨rfl, hb4⟩; have HX4 : Hid (Below w.heap.size w w4) := Lib.hid (below_step HX3.out hb4); have K4 := Lib.hid (H4.out.through hb4); have K5 := Lib.hid (H5.out.through hb4); have K8 := Lib.hid (H8.out.through hb4); have c4 := K4.out.cellAt (i := 0) rfl; have c8 := K8.out.cellAt (i := 0) rfl; clear hb4)
      | (go_at_call 91; (with_reducible refine (HB.out _ _ HX4.out K5.out).mono ?_); rintro e w5 ⟨rfl, hb5⟩; have HX5 : Hid (Below w.heap.size w w5) := Lib.hid (below_step HX4.out hb5); clear hb5))
    go_ret2
    exact ⟨rfl, HX5.out⟩
  | false =>
    rw [hr] at hrise
    have HR := Lib.hid hrise
    clear hrise hb hr
    cases he : ls.findIdx? (fun x : Oc => cmpI x.cl k == 0) with
    | some i =>
      have hp : bb = (i, true) := by rw [← HBB.out]; unfold plc; rw [he]
      have hv : ixF (fun x : Oc => cmpI x.cl k == 0) ls = (i : Int) := ixF_some he
      rw [hv] at h2
      have H2 := Lib.hid h2
      clear h2 h3 he hv
      subst hp
      go_enter Tryz.func67, Tryz.ntmps67
      go_wp2_with (first
        | (refine wpList_store_cell rfl 126 (.tmp 8) (.tmp 11) rfl (w.heap.size + 1 + 1) 0 rfl (.func (.func 88) #[] #[.pointer (some ⟨w.heap.size + 1, 0, none⟩)]) rfl rfl rfl (fun w => by kernel_rfl) 126 [.nilFunc] (Blk.fresh (by simp) rfl) (by simp) ?_; intro w3 hb3 hg3; have HX3 : Hid (Below w.heap.size w w3) := Lib.hid (((below2 w (.cells #[.int .i64 k] 3) (.cells #[.func (.func 44) #[] #[]] 87)).alloc (by simp; omega) (.cells #[.nilFunc] 126)).grown hg3 (by simp; omega) (fun q hq => by have := Option.some.inj hq; omega)); have H8 : Hid (Blk w3 (w.heap.size + 1 + 1) 126 [.func (.func 88) #[] #[.pointer (some ⟨w.heap.size + 1, 0, none⟩)]]) := Lib.hid hb3; have H5 : Hid (Blk w3 (w.heap.size + 1) 87 [.func (.func 44) #[] #[]]) := Lib.hid (((Blk.fresh (by simp) rfl : Blk ((w.alloc (.cells #[.int .i64 k] 3)).alloc (.cells #[.func (.func 44) #[] #[]] 87)) (w.heap.size + 1) 87 [.func (.func 44) #[] #[]]).alloc (.cells #[.nilFunc] 126)).grown hg3 (by simp)); have H4 : Hid (Blk w3 w.heap.size 3 [.int .i64 k]) := Lib.hid ((((Blk.fresh rfl rfl : Blk (w.alloc (.cells #[.int .i64 k] 3)) w.heap.size 3 [.int .i64 k]).alloc (.cells #[.func (.func 44) #[] #[]] 87)).alloc (.cells #[.nilFunc] 126)).grown hg3 (by simp; omega)); have c5 := H5.out.cellAt (i := 0) rfl; clear hb3 hg3)
        | (go_at_call 90; (with_reducible refine (HR.out _ HX3.out).mono ?_); rintro e w4 ⟨rfl, hb4⟩; have HX4 : Hid (Below w.heap.size w w4) := Lib.hid (below_step HX3.out hb4); have K4 := Lib.hid (H4.out.through hb4); have K5 := Lib.hid (H5.out.through hb4); have K8 := Lib.hid (H8.out.through hb4); have c4 := K4.out.cellAt (i := 0) rfl; have c8 := K8.out.cellAt (i := 0) rfl; clear hb4)
        | (go_at_call 92; (with_reducible refine (H2.out _ _ _ _ HX4.out K5.out K8.out K4.out).mono ?_); rintro e w5 ⟨rfl, hb5⟩; have HX5 : Hid (Below w.heap.size w w5) := Lib.hid (below_step HX4.out hb5); have M4 := Lib.hid (K4.out.through hb5); have M5 := Lib.hid (K5.out.through hb5); have M8 := Lib.hid (K8.out.through hb5); clear hb5))
      go_ret2
      exact ⟨rfl, HX5.out⟩
    | none =>
      have hp : bb = (ls.findIdx (fun x : Oc => decide (0 < cmpI x.cl k)), false) := by rw [← HBB.out]; unfold plc; rw [he]
      have hv : ixF (fun x : Oc => cmpI x.cl k == 0) ls = -1 := ixF_none he
      rw [hv] at h2
      have H2 := Lib.hid h2
      clear h2 he hv
      cases hg : ls.findIdx? (fun x : Oc => decide (0 < cmpI x.cl k)) with
      | some i =>
        have hv : ixF (fun x : Oc => decide (0 < cmpI x.cl k)) ls = (i : Int) := ixF_some hg
        rw [hv] at h3
        have H3 := Lib.hid h3
        rw [(findIdx_of_some hg).1] at hp
        clear h3 hg hv
        subst hp
        go_enter Tryz.func67, Tryz.ntmps67
        go_wp2_with (first
          | (refine wpList_store_cell rfl 126 (.tmp 8) (.tmp 11) rfl (w.heap.size + 1 + 1) 0 rfl (.func (.func 88) #[] #[.pointer (some ⟨w.heap.size + 1, 0, none⟩)]) rfl rfl rfl (fun w => by kernel_rfl) 126 [.nilFunc] (Blk.fresh (by simp) rfl) (by simp) ?_; intro w3 hb3 hg3; have HX3 : Hid (Below w.heap.size w w3) := Lib.hid (((below2 w (.cells #[.int .i64 k] 3) (.cells #[.func (.func 44) #[] #[]] 87)).alloc (by simp; omega) (.cells #[.nilFunc] 126)).grown hg3 (by simp; omega) (fun q hq => by have := Option.some.inj hq; omega)); have H8 : Hid (Blk w3 (w.heap.size + 1 + 1) 126 [.func (.func 88) #[] #[.pointer (some ⟨w.heap.size + 1, 0, none⟩)]]) := Lib.hid hb3; have H5 : Hid (Blk w3 (w.heap.size + 1) 87 [.func (.func 44) #[] #[]]) := Lib.hid (((Blk.fresh (by simp) rfl : Blk ((w.alloc (.cells #[.int .i64 k] 3)).alloc (.cells #[.func (.func 44) #[] #[]] 87)) (w.heap.size + 1) 87 [.func (.func 44) #[] #[]]).alloc (.cells #[.nilFunc] 126)).grown hg3 (by simp)); have H4 : Hid (Blk w3 w.heap.size 3 [.int .i64 k]) := Lib.hid ((((Blk.fresh rfl rfl : Blk (w.alloc (.cells #[.int .i64 k] 3)) w.heap.size 3 [.int .i64 k]).alloc (.cells #[.func (.func 44) #[] #[]] 87)).alloc (.cells #[.nilFunc] 126)).grown hg3 (by simp; omega)); have c5 := H5.out.cellAt (i := 0) rfl; clear hb3 hg3)
          | (go_at_call 90; (with_reducible refine (HR.out _ HX3.out).mono ?_); rintro e w4 ⟨rfl, hb4⟩; have HX4 : Hid (Below w.heap.size w w4) := Lib.hid (below_step HX3.out hb4); have K4 := Lib.hid (H4.out.through hb4); have K5 := Lib.hid (H5.out.through hb4); have K8 := Lib.hid (H8.out.through hb4); have c4 := K4.out.cellAt (i := 0) rfl; have c8 := K8.out.cellAt (i := 0) rfl; clear hb4)
          | (go_at_call 92; (with_reducible refine (H2.out _ _ _ _ HX4.out K5.out K8.out K4.out).mono ?_); rintro e w5 ⟨rfl, hb5⟩; have HX5 : Hid (Below w.heap.size w w5) := Lib.hid (below_step HX4.out hb5); have M4 := Lib.hid (K4.out.through hb5); have M5 := Lib.hid (K5.out.through hb5); have M8 := Lib.hid (K8.out.through hb5); clear hb5)
          | (go_at_call 92; (with_reducible refine (H3.out _ _ _ _ HX5.out M5.out M8.out M4.out).mono ?_); rintro e w6 ⟨rfl, hb6⟩; have HX6 : Hid (Below w.heap.size w w6) := Lib.hid (below_step HX5.out hb6); clear hb6))
        go_ret2
        exact ⟨rfl, HX6.out⟩
      | none =>
        have hv : ixF (fun x : Oc => decide (0 < cmpI x.cl k)) ls = -1 := ixF_none hg
        rw [hv] at h3
        have H3 := Lib.hid h3
        rw [findIdx_of_none hg, HLn.out] at hp
        clear h3 hg hv
        subst hp
        go_enter Tryz.func67, Tryz.ntmps67
        go_wp2_with (first
          | (refine wpList_store_cell rfl 126 (.tmp 8) (.tmp 11) rfl (w.heap.size + 1 + 1) 0 rfl (.func (.func 88) #[] #[.pointer (some ⟨w.heap.size + 1, 0, none⟩)]) rfl rfl rfl (fun w => by kernel_rfl) 126 [.nilFunc] (Blk.fresh (by simp) rfl) (by simp) ?_; intro w3 hb3 hg3; have HX3 : Hid (Below w.heap.size w w3) := Lib.hid (((below2 w (.cells #[.int .i64 k] 3) (.cells #[.func (.func 44) #[] #[]] 87)).alloc (by simp; omega) (.cells #[.nilFunc] 126)).grown hg3 (by simp; omega) (fun q hq => by have := Option.some.inj hq; omega)); have H8 : Hid (Blk w3 (w.heap.size + 1 + 1) 126 [.func (.func 88) #[] #[.pointer (some ⟨w.heap.size + 1, 0, none⟩)]]) := Lib.hid hb3; have H5 : Hid (Blk w3 (w.heap.size + 1) 87 [.func (.func 44) #[] #[]]) := Lib.hid (((Blk.fresh (by simp) rfl : Blk ((w.alloc (.cells #[.int .i64 k] 3)).alloc (.cells #[.func (.func 44) #[] #[]] 87)) (w.heap.size + 1) 87 [.func (.func 44) #[] #[]]).alloc (.cells #[.nilFunc] 126)).grown hg3 (by simp)); have H4 : Hid (Blk w3 w.heap.size 3 [.int .i64 k]) := Lib.hid ((((Blk.fresh rfl rfl : Blk (w.alloc (.cells #[.int .i64 k] 3)) w.heap.size 3 [.int .i64 k]).alloc (.cells #[.func (.func 44) #[] #[]] 87)).alloc (.cells #[.nilFunc] 126)).grown hg3 (by simp; omega)); have c5 := H5.out.cellAt (i := 0) rfl; clear hb3 hg3)
          | (go_at_call 90; (with_reducible refine (HR.out _ HX3.out).mono ?_); rintro e w4 ⟨rfl, hb4⟩; have HX4 : Hid (Below w.heap.size w w4) := Lib.hid (below_step HX3.out hb4); have K4 := Lib.hid (H4.out.through hb4); have K5 := Lib.hid (H5.out.through hb4); have K8 := Lib.hid (H8.out.through hb4); have c4 := K4.out.cellAt (i := 0) rfl; have c8 := K8.out.cellAt (i := 0) rfl; clear hb4)
          | (go_at_call 92; (with_reducible refine (H2.out _ _ _ _ HX4.out K5.out K8.out K4.out).mono ?_); rintro e w5 ⟨rfl, hb5⟩; have HX5 : Hid (Below w.heap.size w w5) := Lib.hid (below_step HX4.out hb5); have M4 := Lib.hid (K4.out.through hb5); have M5 := Lib.hid (K5.out.through hb5); have M8 := Lib.hid (K8.out.through hb5); clear hb5)
          | (go_at_call 92; (with_reducible refine (H3.out _ _ _ _ HX5.out M5.out M8.out M4.out).mono ?_); rintro e w6 ⟨rfl, hb6⟩; have HX6 : Hid (Below w.heap.size w w6) := Lib.hid (below_step HX5.out hb6); clear hb6))
        go_ret2
        exact ⟨rfl, HX6.out⟩

set_option maxHeartbeats 8000000 in
set_option maxRecDepth 100000 in
theorem getO_any (ls : List Oc) (A : Option Addr) (n c : Nat) (k : Int) (w : World) (h : Sl w 3 A n (ls.map Oc.cells)) (hn : n ≤ 1000000) :
    Calls Tryz.prog 52 #[.slice A n c, .int .i64 k, .func (.func 44) #[] #[]] w fun e w' => e = .returned (.tuple #[.agg (lastR (getP (fun x : Oc => cmpI x.cl k) ls)).1.cells.toArray, .bool (lastR (getP (fun x : Oc => cmpI x.cl k) ls)).2]) ∧ Below w.heap.size w w' := by
  have HI := Lib.hid h
  have hz := Tryz.zero_oc
  have HIX := Lib.hid Tryz.ix_oc
  have hp : ∀ W, Below w.heap.size w W → Calls Tryz.prog 67 #[.slice A n c, .int .i64 k, .func (.func 44) #[] #[]] W fun e w' => e = .returned (.tuple #[.int .i64 ((plc (fun x : Oc => cmpI x.cl k) ls).1 : Nat), .bool (plc (fun x : Oc => cmpI x.cl k) ls).2]) ∧ Below W.heap.size W w' := fun W hW => placeO_any ls A n c k W (h.through hW) hn
  have hlen : ls.length = n := by simpa using h.len
  cases hf : (plc (fun x : Oc => cmpI x.cl k) ls).2 with
  | true =>
    obtain ⟨x, hx, _⟩ := plc_lt hf
    have hg : getP (fun x : Oc => cmpI x.cl k) ls = some x := by unfold getP; rw [hf, if_pos rfl, hx]
    rw [hg]
    simp only [hf] at hp
    generalize (plc (fun x : Oc => cmpI x.cl k) ls).1 = i at *
    have HP := Lib.hid hp
    have hi : i < n := by have := (List.getElem?_eq_some_iff.1 hx).1; omega
    obtain ⟨g, o, x', rfl, hx', _⟩ := h.at_oc hi
    obtain rfl : x = x' := by rw [hx] at hx'; exact Option.some.inj hx'
    have HXi := Lib.hid hx
    have hix := fun W => HIX.out W g o n c i hi
    have HA : Hid (∀ W, Below w.heap.size w W → W.rangeAt g (o + i * 3) x.cells) := Lib.hid fun W hW => by
      obtain ⟨g2, o2, x2, e2, hx2, _, _, hr2⟩ := (HI.out.through hW).at_oc hi
      obtain ⟨rfl, rfl⟩ : g = g2 ∧ o = o2 := by simpa using e2
      obtain rfl : x = x2 := by rw [HXi.out] at hx2; exact Option.some.inj hx2
      exact hr2
    clear hp hf hg h hlen hx hx'
    go_enter Tryz.func52, Tryz.ntmps52
    go_wp2_with (first
      | (go_at_call 67; (with_reducible refine (HP.out _ (below1 w _)).mono ?_); rintro e w1 ⟨rfl, hb1⟩; have HX1 : Hid (Below w.heap.size w w1) := Lib.hid ((below1 w _).trans (hb1.mono (by simp))); have H6 : Hid (Blk w1 w.heap.size 56 [.int .i64 0, .int .i64 0, .int .i64 0]) := Lib.hid ((Blk.fresh rfl rfl : Blk (w.alloc (.cells #[.int .i64 0, .int .i64 0, .int .i64 0] 56)) w.heap.size 56 [.int .i64 0, .int .i64 0, .int .i64 0]).through hb1); clear hb1)
      | (refine wpList_load_mid rfl 56 (.tmp 23) rfl g (o + i * 3) rfl [.int .i64 x.cl, .int .i64 x.sp, .int .i64 x.rs] _ (HA.out _ HX1.out) Tryz.underlying56 rfl (by kernel_rfl) ?_)
      | (refine wpList_store_blk rfl 56 (.tmp 6) (.tmp 24) rfl w.heap.size [.int .i64 x.cl, .int .i64 x.sp, .int .i64 x.rs] rfl rfl 56 [.int .i64 0, .int .i64 0, .int .i64 0] H6.out (by kernel_rfl) rfl (one3i _ _ _) ?_; intro wb hbb hgb; have HBb := Lib.hid hbb; have HXb : Hid (Below w.heap.size w wb) := Lib.hid (HX1.out.grown hgb HX1.out.size (fun k hk => by have := Option.some.inj hk; omega)); clear hbb hgb))
    (try simp only [Exit.inBlock, Exit.then]); refine bodyPost_ret (results_cell_row_tmp1 rfl _ _ w.heap.size 56 _ (0, 0) _ rfl HBb.out Tryz.underlying56 rfl (by kernel_rfl)) rfl ⟨rfl, HXb.out⟩
  | false =>
    have hg : getP (fun x : Oc => cmpI x.cl k) ls = none := by unfold getP; rw [hf]; rfl
    rw [hg]
    simp only [hf] at hp
    generalize (plc (fun x : Oc => cmpI x.cl k) ls).1 = i at *
    have HP := Lib.hid hp
    clear hp hf hg h hlen
    go_enter Tryz.func52, Tryz.ntmps52
    go_wp2_with (first
      | (go_at_call 67; (with_reducible refine (HP.out _ (below1 w _)).mono ?_); rintro e w1 ⟨rfl, hb1⟩; have HX1 : Hid (Below w.heap.size w w1) := Lib.hid ((below1 w _).trans (hb1.mono (by simp))); have H6 : Hid (Blk w1 w.heap.size 56 [.int .i64 0, .int .i64 0, .int .i64 0]) := Lib.hid ((Blk.fresh rfl rfl : Blk (w.alloc (.cells #[.int .i64 0, .int .i64 0, .int .i64 0] 56)) w.heap.size 56 [.int .i64 0, .int .i64 0, .int .i64 0]).through hb1); clear hb1)
      | (refine wpList_store_blk rfl 56 (.tmp 6) (.tmp 20) rfl w.heap.size [.int .i64 0, .int .i64 0, .int .i64 0] rfl rfl 56 [.int .i64 0, .int .i64 0, .int .i64 0] (H6.out.alloc _) (by kernel_rfl) rfl (one3i _ _ _) ?_; intro wb hbb hgb; have HBb := Lib.hid hbb; have HXb : Hid (Below w.heap.size w wb) := Lib.hid ((HX1.out.alloc HX1.out.size _).grown hgb (HX1.out.alloc HX1.out.size _).size (fun k hk => by have := Option.some.inj hk; omega)); clear hbb hgb))
    (try simp only [Exit.inBlock, Exit.then]); refine bodyPost_ret (results_cell_row_tmp1 rfl _ _ w.heap.size 56 _ (0, 0) _ rfl HBb.out Tryz.underlying56 rfl (by kernel_rfl)) rfl ⟨rfl, HXb.out⟩
end

section
open Go.RowKit
/-- What a call hands back: a slice of these elements, in memory. -/
def SlOut (w : World) (k : Nat) (xs : List (List Value)) (e : Ending) (w' : World) : Prop := ∃ A n c, e = .returned (.slice A n c) ∧ Sl w' k A n xs ∧ n ≤ c ∧ Below w.heap.size w w' ∧ ∀ a, A = some a → w.heap.size ≤ a.block
theorem Lt.cells_len (ls : List Lt) : ∀ y ∈ ls.map Lt.cells, y.length = 6 := fun y hy => by
  obtain ⟨x, _, rfl⟩ := List.mem_map.1 hy
  rfl
theorem Oc.cells_len (ls : List Oc) : ∀ y ∈ ls.map Oc.cells, y.length = 3 := fun y hy => by
  obtain ⟨x, _, rfl⟩ := List.mem_map.1 hy
  rfl
theorem Lt.cells_one (ls : List Lt) : ∀ y ∈ ls.map Lt.cells, ∀ u ∈ y, u.oneCell' = true := fun y hy u hu => by
  obtain ⟨x, _, rfl⟩ := List.mem_map.1 hy
  simp [Lt.cells] at hu
  rcases hu with rfl | rfl | rfl | rfl | rfl | rfl <;> rfl
theorem Oc.cells_one (ls : List Oc) : ∀ y ∈ ls.map Oc.cells, ∀ u ∈ y, u.oneCell' = true := fun y hy u hu => by
  obtain ⟨x, _, rfl⟩ := List.mem_map.1 hy
  simp [Oc.cells] at hu
  rcases hu with rfl | rfl | rfl <;> rfl
theorem Sl.from_ {w : World} {k n c i : Nat} {A : Option Addr} {xs : List (List Value)} (h : Sl w k A n xs) (hi : i ≤ n) (hc : n ≤ c) : ∃ A', (if c = i then A else A.map (·.add (i * k))) = A' ∧ Sl w k A' (n - i) (xs.drop i) :=
  ⟨_, rfl, by rw [List.length_drop, h.1], fun hn => by
    obtain ⟨g, o, e, hcell⟩ := h.2 (by omega)
    subst e
    rw [if_neg (by omega)]
    refine ⟨g, o + i * k, ?_, fun j cs hj => ?_⟩
    · simp only [Option.map_some, Option.some.injEq]
      unfold Addr.add; split <;> simp_all
    · have h1 := hcell (i + j) cs (by rw [← hj, List.getElem?_drop])
      rw [show o + (i + j) * k = o + i * k + j * k by rw [Nat.add_mul]; omega] at h1
      exact h1⟩
theorem Sl.to_ {w : World} {k n i : Nat} {A : Option Addr} {xs : List (List Value)} (h : Sl w k A n xs) (hi : i ≤ n) : Sl w k A i (xs.take i) :=
  ⟨by rw [List.length_take, h.1]; omega, fun hn => by
    obtain ⟨g, o, e, hcell⟩ := h.2 (by omega)
    refine ⟨g, o, e, fun j cs hj => hcell j cs ?_⟩
    rw [List.getElem?_take] at hj
    split at hj
    · exact hj
    · cases hj⟩
theorem Sl.one_ {w : World} {k g : Nat} {e : TypeId} {q : List Value} (h : Blk w g e q) : Sl w k (some ⟨g, 0, none⟩) 1 [q] :=
  ⟨rfl, fun _ => ⟨g, 0, rfl, fun i cs hi => by
    cases i with
    | zero =>
      simp at hi
      subst hi
      intro j u hu
      have := h.cellAt hu
      simpa using this
    | succ i => simp at hi⟩⟩
theorem Os.made (w : World) (e : TypeId) (k : Nat) : Os (w.alloc (.cells #[] e)) w.heap.size e k (.slice (some ⟨w.heap.size, 0, none⟩) 0 0) [] :=
  ⟨World.ownsRow_made w #[] 0 (Nat.le_refl _) (by simp [maxLen]) (by simp), fun x hx => by cases hx⟩
theorem slOut_of {w w' : World} {B : Nat} {e : TypeId} {k : Nat} {v : Value} {xs : List (List Value)} (h : Os w' B e k v xs) (hB : w.heap.size ≤ B) (hb : Below w.heap.size w w') : SlOut w k xs (.returned v) w' := by
  have hlt := h.lt
  obtain ⟨A, c, rfl, hc, _, hs⟩ := h.out
  refine ⟨A, _, c, rfl, hs, hc, hb, fun a ha => ?_⟩
  subst ha
  exact Nat.le_trans hB (hlt a.block rfl).1
theorem Sl.far {w w' : World} {k n g : Nat} {A : Option Addr} {xs : List (List Value)} (h : Sl w k A n xs) (hg : w.grownBy w' (some g)) (hA : ∀ a, A = some a → g < a.block) : Sl w' k A n xs :=
  ⟨h.1, fun hn => by
    obtain ⟨g', o, e, hc⟩ := h.2 hn
    exact ⟨g', o, e, fun i cs hi => rangeAt.only (hc i cs hi) hg (fun e2 => by have := hA _ e; simp at this; omega)⟩⟩
/-- how much three lists are together -/
def s3 (a b c : Nat) : Nat → Nat
  | 0 => 0
  | 1 => a
  | 2 => a + b
  | _ => a + b + c
def p3 {α : Type} (a b c : List α) : Nat → List α
  | 0 => []
  | 1 => a
  | 2 => a ++ b
  | _ => a ++ b ++ c
theorem step_build_three {P : Program} {ops : Array Oper} {o : Oper} {a : Act} {w : World} {K : Act → World → Prop} {Q : Exit → Act → World → Prop} {F : Prop} (hgd : o.guard = none) (s e : TypeId) (x y z : Operand) (ho : o.op = .buildSlice s 3 #[(0, x), (1, y), (2, z)])
    (p q r : Value) (hx : a.eval x = p) (hy : a.eval y = q) (hz : a.eval z = r) (hrun : (Instr.buildSlice s 3 #[(0, p), (1, q), (2, r)]).run P w = .ok (.slice (some ⟨w.heap.size, 0, none⟩) 3 3) (w.alloc (.cells #[p, q, r] e)))
    (h : K (a.put o.dst (.slice (some ⟨w.heap.size, 0, none⟩) 3 3)) (w.alloc (.cells #[p, q, r] e))) : if Region.wanted o (yielded ops a.tmps) = true then Oper.wp P o a w K Q else F := by
  have hw : Region.wanted o (yielded ops a.tmps) = true := by simp [Region.wanted, hgd]
  rw [if_pos hw]
  unfold Oper.wp execOp
  simp only [ho, Sem.run_bind, List.map_toArray, List.map_cons, List.map_nil, hx, hy, hz, hrun, Result.andThen_ok]
  exact h
theorem step_build_three_w {P : Program} {ops : Array Oper} {o : Oper} {a : Act} {w : World} {K : Act → World → Prop} {Q : Exit → Act → World → Prop} {F : Prop} (hgd : o.guard = none) (s e : TypeId) (x y z : Operand) (ho : o.op = .buildSlice s 3 #[(0, x), (1, y), (2, z)])
    (p q r : Value) (hx : a.eval x = p) (hy : a.eval y = q) (hz : a.eval z = r) (hrun : (Instr.buildSlice s 3 #[(0, p), (1, q), (2, r)]).run P w = .ok (.slice (some ⟨w.heap.size, 0, none⟩) 3 3) (w.alloc (.cells #[p, q, r] e)))
    (h : ∀ g w', Blk w' g e [p, q, r] → Below w.heap.size w w' → K (a.put o.dst (.slice (some ⟨g, 0, none⟩) 3 3)) w') : if Region.wanted o (yielded ops a.tmps) = true then Oper.wp P o a w K Q else F :=
  step_build_three hgd s e x y z ho p q r hx hy hz hrun (h _ _ (Blk.fresh rfl rfl) ((Below.refl _ w).alloc (Nat.le_refl _) _))

set_option maxHeartbeats 4000000 in
theorem cloneL_any (ls : List Lt) (A : Option Addr) (n c : Nat) (w : World) (h : Sl w 6 A n (ls.map Lt.cells)) (hn : n ≤ 1000000) :
    Calls Tryz.prog 33 #[.slice A n c] w (SlOut w 6 (ls.map Lt.cells)) := by
  have q22 : ∀ (w : World) (a : Option Addr) (n c n' c' : Nat), (binOp .eql 22 (.slice a n c) (.slice none n' c')).run Tryz.prog w = .ok (.bool a.isNone) w := fun w a n c n' c' => Lib.run_eql_slice_nil w _ _ a n c n' c' Tryz.underlying22
  rcases A with _ | ad
  · obtain rfl : n = 0 := by
      rcases Nat.eq_zero_or_pos n with h0 | h0
      · exact h0
      · obtain ⟨_, _, h, _⟩ := h.2 h0
        cases h
    have hl : ls.map Lt.cells = [] := List.eq_nil_of_length_eq_zero h.1
    rw [hl]
    clear h hl
    go_enter Tryz.func33, Tryz.ntmps33
    go_wp2
    go_ret
    exact ⟨none, 0, 0, rfl, Sl.none_, Nat.le_refl _, Below.refl _ _, fun a ha => by cases ha⟩
  · have HI := Lib.hid h
    obtain ⟨xs, hxs⟩ : ∃ xs, ls.map Lt.cells = xs := ⟨_, rfl⟩
    have h6 := Lt.cells_len ls
    have h1 := Lt.cells_one ls
    rw [hxs] at h6 h1 HI ⊢
    have H6 := Lib.hid h6
    have H1 := Lib.hid h1
    clear h hxs h6 h1
    go_enter Tryz.func33, Tryz.ntmps33
    go_wp2_with (at_builtin; go_loud (refine wpList_append_sl rfl Tryz.el_lt (.tmp 5) (.tmp 6) rfl w.heap.size (.slice (some ⟨w.heap.size, 0, none⟩) 0 0) [] rfl (Os.made w 39 6) (some ad) n c xs rfl (HI.out.alloc _) H6.out H1.out (by simp; omega) (by simp) ?_); intro v' w1 ho hg; have HO := Lib.hid ho; have HX : Hid (Below w.heap.size w w1) := Lib.hid ((below1 w _).grown hg (by simp) (fun q hq => by simp [Value.ownBlock] at hq; omega)); clear ho hg)
    go_ret
    exact slOut_of HO.out (Nat.le_refl _) HX.out

set_option maxHeartbeats 4000000 in
theorem growL_any (m : Nat) (h0 : 0 < m) (hm : m ≤ 1000000) (w : World) :
    Calls Tryz.prog 112 #[.slice none 0 0, .int .i64 (m : Int)] w fun e w' => ∃ v, e = .returned v ∧ Os w' w.heap.size 39 6 v [] ∧ Below w.heap.size w w' := by
  have hw1 : IntKind.i64.wrap ((m : Int) - 0) = (m : Int) := by rw [IntWalk.i64_in _ (by omega)]; omega
  have hd0 : decide ((m : Int) < 0) = false := by simp
  have hd1 : decide ((0 : Int) < (m : Int)) = true := by simp; omega
  go_enter Tryz.func112, Tryz.ntmps112
  go_wp2_with (at_builtin; refine wpList_append_zeros rfl Tryz.el_lt 3 Tryz.underlying3 (.tmp 20) (.tmp 21) rfl rfl m rfl h0 hm ?_; intro cap w1 ho hcap hb; have HO := Lib.hid ho; have HX := Lib.hid hb; clear ho hb)
  go_ret
  exact ⟨_, rfl, HO.out, HX.out⟩

set_option maxHeartbeats 8000000 in
set_option maxRecDepth 100000 in
theorem concatL_any (gb : Nat) (A1 A2 A3 : Option Addr) (n1 n2 n3 c1 c2 c3 : Nat) (x1 x2 x3 : List Lt) (w : World) (hb : Blk w gb 22 [.slice A1 n1 c1, .slice A2 n2 c2, .slice A3 n3 c3]) (h1 : Sl w 6 A1 n1 (x1.map Lt.cells)) (h2 : Sl w 6 A2 n2 (x2.map Lt.cells)) (h3 : Sl w 6 A3 n3 (x3.map Lt.cells)) (h0 : 0 < n2) (hn : n1 + n2 + n3 ≤ 100000) :
    Calls Tryz.prog 87 #[.slice (some ⟨gb, 0, none⟩) 3 3] w (SlOut w 6 ((x1 ++ x2 ++ x3).map Lt.cells)) := by
  have hix : ∀ (W : World) (i : Nat), i < 3 → (Instr.indexAt 144 (.slice (some ⟨gb, 0, none⟩) 3 3) (.int .i64 (i : Int))).run Tryz.prog W = .ok (.pointer (some ⟨gb, i, none⟩)) W := fun W i hi => by
    have hs : ∀ W, (sizeOf 22).run Tryz.prog W = .ok 1 W := fun W => by kernel_rfl
    rw [run_indexAt_slice (P := Tryz.prog) W 144 ⟨gb, 0, none⟩ 3 3 .i64 i Tryz.underlying144, if_pos ⟨by omega, by omega⟩, show Tryz.prog.elem 144 = 22 by kernel_rfl, hs]
    simp [Addr.add]
    omega
  have HIX := Lib.hid hix
  have HB := Lib.hid hb
  have H1 := Lib.hid h1
  have H2 := Lib.hid h2
  have H3 := Lib.hid h3
  clear hix hb h1 h2 h3
  go_enter Tryz.func87, Tryz.ntmps87
  go_wp2
  go_loopw [3, 11] (fun sv iv wr => ∃ i : Nat, i ≤ 3 ∧ iv = .int .i64 i ∧ sv = .int .i64 (s3 n1 n2 n3 i : Nat) ∧ w = wr) (fun _ iv _ => 3 - (intOf iv).toNat)
  case atStart => exact ⟨0, by omega, rfl, rfl, rfl⟩
  case round =>
    obtain ⟨i, hi, rfl, rfl, rfl⟩ := hrel
    have c0 := HB.out.cellAt (i := 0) rfl
    have c1' := HB.out.cellAt (i := 1) rfl
    have c2' := HB.out.cellAt (i := 2) rfl
    rcases i with _ | _ | _ | i
    · have hx := HIX.out w 0 (by omega)
      simp only [s3]
      go_wp2
      go_roundw
      case rel => exact ⟨1, by omega, by go_num, rfl, trivial⟩
      case measure => simp [intOf]
    · have hx := HIX.out w 1 (by omega)
      simp only [s3]
      go_wp2
      go_roundw
      case rel => exact ⟨2, by omega, by go_num, rfl, trivial⟩
      case measure => simp [intOf]
    · have hx := HIX.out w 2 (by omega)
      simp only [s3]
      go_wp2
      go_roundw
      case rel => exact ⟨3, by omega, by go_num, rfl, trivial⟩
      case measure => simp [intOf]
    · obtain rfl : i = 0 := by omega
      have hs : s3 n1 n2 n3 (0 + 1 + 1 + 1) = n1 + n2 + n3 := rfl
      rw [hs]
      have hl : n1 + n2 + n3 ≤ 1000000 := by omega
      have hp : 0 < n1 + n2 + n3 := by omega
      have hb1 : n1 ≤ 100000 := by omega
      have hb2 : n1 + n2 ≤ 100000 := by omega
      have hb3 : n3 ≤ 100000 := by omega
      generalize n1 + n2 + n3 = m at *
      clear c0 c1' c2' hs
      go_wp2_with (go_at_call 112; (with_reducible refine (growL_any m hp hl _).mono ?_); rintro e w1 ⟨v1, rfl, ho1, hb1⟩; have HO1 := Lib.hid ho1; have HX1 := Lib.hid hb1; have HB1 := Lib.hid (HB.out.through hb1); clear ho1 hb1)
      go_loopw [6, 27] (fun sv iv wr => ∃ i : Nat, i ≤ 3 ∧ iv = .int .i64 i ∧ Os wr w.heap.size 39 6 sv ((p3 x1 x2 x3 i).map Lt.cells) ∧ Below w.heap.size w wr) (fun _ iv _ => 3 - (intOf iv).toNat)
      case atStart => exact ⟨0, by omega, rfl, HO1.out, HX1.out⟩
      case round =>
        obtain ⟨i, hi, rfl, ho, hx⟩ := hrel
        obtain ⟨An, nn, cn, rfl, hnn⟩ := ho.out'
        have HNN := Lib.hid hnn
        have HO := Lib.hid ho
        have HX := Lib.hid hx
        have HBw := Lib.hid (HB.out.through hx)
        have c0 := HBw.out.cellAt (i := 0) rfl
        have c1' := HBw.out.cellAt (i := 1) rfl
        have c2' := HBw.out.cellAt (i := 2) rfl
        clear ho hx hnn
        rcases i with _ | _ | _ | i
        · have hx := HIX.out wr 0 (by omega)
          have hlen := Lib.hid H1.out.len
          simp only [p3, List.map_nil] at HO ⊢
          go_wp2_with (at_builtin; go_loud (refine wpList_append_sl rfl Tryz.el_lt (.tmp 31) (.tmp 32) rfl w.heap.size (.slice An nn cn) (List.map Lt.cells []) rfl HO.out A1 n1 c1 (x1.map Lt.cells) rfl (H1.out.through HX.out) (Lt.cells_len _) (Lt.cells_one _) (by have h7 := H1.out.len; have h8 := H2.out.len; simp only [List.length_map] at h7 h8; simp; omega) HX.out.size ?_); intro v3 w3 ho3 hg3; have HO2 := Lib.hid ho3; have HX2 : Hid (Below w.heap.size w w3) := Lib.hid (HX.out.grown hg3 HX.out.size (fun q hq => (HO.out.lt q hq).1)); clear ho3 hg3)
          go_roundw
          case rel => exact ⟨1, by omega, by go_num, by simpa [p3] using HO2.out, HX2.out⟩
          case measure => simp [intOf]
        · have hx := HIX.out wr 1 (by omega)
          have hlen := Lib.hid H1.out.len
          have hlen2 := Lib.hid H2.out.len
          simp only [p3] at HO ⊢
          go_wp2_with (at_builtin; go_loud (refine wpList_append_sl rfl Tryz.el_lt (.tmp 31) (.tmp 32) rfl w.heap.size (.slice An nn cn) (List.map Lt.cells x1) rfl HO.out A2 n2 c2 (x2.map Lt.cells) rfl (H2.out.through HX.out) (Lt.cells_len _) (Lt.cells_one _) (by have h7 := H1.out.len; have h8 := H2.out.len; simp only [List.length_map] at h7 h8; simp; omega) HX.out.size ?_); intro v3 w3 ho3 hg3; have HO2 := Lib.hid ho3; have HX2 : Hid (Below w.heap.size w w3) := Lib.hid (HX.out.grown hg3 HX.out.size (fun q hq => (HO.out.lt q hq).1)); clear ho3 hg3)
          go_roundw
          case rel => exact ⟨2, by omega, by go_num, by simpa [p3] using HO2.out, HX2.out⟩
          case measure => simp [intOf]
        · have hx := HIX.out wr 2 (by omega)
          have hlen := Lib.hid H1.out.len
          have hlen2 := Lib.hid H2.out.len
          have hlen3 := Lib.hid H3.out.len
          simp only [p3] at HO ⊢
          go_wp2_with (at_builtin; go_loud (refine wpList_append_sl rfl Tryz.el_lt (.tmp 31) (.tmp 32) rfl w.heap.size (.slice An nn cn) (List.map Lt.cells (x1 ++ x2)) rfl HO.out A3 n3 c3 (x3.map Lt.cells) rfl (H3.out.through HX.out) (Lt.cells_len _) (Lt.cells_one _) (by have h7 := H1.out.len; have h8 := H2.out.len; simp only [List.length_map] at h7 h8; simp; omega) HX.out.size ?_); intro v3 w3 ho3 hg3; have HO2 := Lib.hid ho3; have HX2 : Hid (Below w.heap.size w w3) := Lib.hid (HX.out.grown hg3 HX.out.size (fun q hq => (HO.out.lt q hq).1)); clear ho3 hg3)
          go_roundw
          case rel => exact ⟨3, by omega, by go_num, by simpa [p3] using HO2.out, HX2.out⟩
          case measure => simp [intOf]
        · obtain rfl : i = 0 := by omega
          go_wp2
          go_ret
          exact slOut_of HO.out (Nat.le_refl _) HX.out

set_option maxHeartbeats 4000000 in
theorem cloneO_any (ls : List Oc) (A : Option Addr) (n c : Nat) (w : World) (h : Sl w 3 A n (ls.map Oc.cells)) (hn : n ≤ 1000000) :
    Calls Tryz.prog 34 #[.slice A n c] w (SlOut w 3 (ls.map Oc.cells)) := by
  have q22 : ∀ (w : World) (a : Option Addr) (n c n' c' : Nat), (binOp .eql 23 (.slice a n c) (.slice none n' c')).run Tryz.prog w = .ok (.bool a.isNone) w := fun w a n c n' c' => Lib.run_eql_slice_nil w _ _ a n c n' c' Tryz.underlying23
  rcases A with _ | ad
  · obtain rfl : n = 0 := by
      rcases Nat.eq_zero_or_pos n with h0 | h0
      · exact h0
      · obtain ⟨_, _, h, _⟩ := h.2 h0
        cases h
    have hl : ls.map Oc.cells = [] := List.eq_nil_of_length_eq_zero h.1
    rw [hl]
    clear h hl
    go_enter Tryz.func34, Tryz.ntmps34
    go_wp2
    go_ret
    exact ⟨none, 0, 0, rfl, Sl.none_, Nat.le_refl _, Below.refl _ _, fun a ha => by cases ha⟩
  · have HI := Lib.hid h
    obtain ⟨xs, hxs⟩ : ∃ xs, ls.map Oc.cells = xs := ⟨_, rfl⟩
    have h6 := Oc.cells_len ls
    have h1 := Oc.cells_one ls
    rw [hxs] at h6 h1 HI ⊢
    have H6 := Lib.hid h6
    have H1 := Lib.hid h1
    clear h hxs h6 h1
    go_enter Tryz.func34, Tryz.ntmps34
    go_wp2_with (at_builtin; go_loud (refine wpList_append_sl rfl Tryz.el_oc (.tmp 5) (.tmp 6) rfl w.heap.size (.slice (some ⟨w.heap.size, 0, none⟩) 0 0) [] rfl (Os.made w 56 3) (some ad) n c xs rfl (HI.out.alloc _) H6.out H1.out (by simp; omega) (by simp) ?_); intro v' w1 ho hg; have HO := Lib.hid ho; have HX : Hid (Below w.heap.size w w1) := Lib.hid ((below1 w _).grown hg (by simp) (fun q hq => by simp [Value.ownBlock] at hq; omega)); clear ho hg)
    go_ret
    exact slOut_of HO.out (Nat.le_refl _) HX.out

set_option maxHeartbeats 4000000 in
theorem growO_any (m : Nat) (h0 : 0 < m) (hm : m ≤ 1000000) (w : World) :
    Calls Tryz.prog 95 #[.slice none 0 0, .int .i64 (m : Int)] w fun e w' => ∃ v, e = .returned v ∧ Os w' w.heap.size 56 3 v [] ∧ Below w.heap.size w w' := by
  have hw1 : IntKind.i64.wrap ((m : Int) - 0) = (m : Int) := by rw [IntWalk.i64_in _ (by omega)]; omega
  have hd0 : decide ((m : Int) < 0) = false := by simp
  have hd1 : decide ((0 : Int) < (m : Int)) = true := by simp; omega
  go_enter Tryz.func95, Tryz.ntmps95
  go_wp2_with (at_builtin; refine wpList_append_zeros rfl Tryz.el_oc 3 Tryz.underlying3 (.tmp 20) (.tmp 21) rfl rfl m rfl h0 hm ?_; intro cap w1 ho hcap hb; have HO := Lib.hid ho; have HX := Lib.hid hb; clear ho hb)
  go_ret
  exact ⟨_, rfl, HO.out, HX.out⟩

set_option maxHeartbeats 8000000 in
set_option maxRecDepth 100000 in
theorem concatO_any (gb : Nat) (A1 A2 A3 : Option Addr) (n1 n2 n3 c1 c2 c3 : Nat) (x1 x2 x3 : List Oc) (w : World) (hb : Blk w gb 23 [.slice A1 n1 c1, .slice A2 n2 c2, .slice A3 n3 c3]) (h1 : Sl w 3 A1 n1 (x1.map Oc.cells)) (h2 : Sl w 3 A2 n2 (x2.map Oc.cells)) (h3 : Sl w 3 A3 n3 (x3.map Oc.cells)) (h0 : 0 < n2) (hn : n1 + n2 + n3 ≤ 100000) :
    Calls Tryz.prog 68 #[.slice (some ⟨gb, 0, none⟩) 3 3] w (SlOut w 3 ((x1 ++ x2 ++ x3).map Oc.cells)) := by
  have hix : ∀ (W : World) (i : Nat), i < 3 → (Instr.indexAt 131 (.slice (some ⟨gb, 0, none⟩) 3 3) (.int .i64 (i : Int))).run Tryz.prog W = .ok (.pointer (some ⟨gb, i, none⟩)) W := fun W i hi => by
    have hs : ∀ W, (sizeOf 23).run Tryz.prog W = .ok 1 W := fun W => by kernel_rfl
    rw [run_indexAt_slice (P := Tryz.prog) W 131 ⟨gb, 0, none⟩ 3 3 .i64 i Tryz.underlying131, if_pos ⟨by omega, by omega⟩, show Tryz.prog.elem 131 = 23 by kernel_rfl, hs]
    simp [Addr.add]
    omega
  have HIX := Lib.hid hix
  have HB := Lib.hid hb
  have H1 := Lib.hid h1
  have H2 := Lib.hid h2
  have H3 := Lib.hid h3
  clear hix hb h1 h2 h3
  go_enter Tryz.func68, Tryz.ntmps68
  go_wp2
  go_loopw [3, 11] (fun sv iv wr => ∃ i : Nat, i ≤ 3 ∧ iv = .int .i64 i ∧ sv = .int .i64 (s3 n1 n2 n3 i : Nat) ∧ w = wr) (fun _ iv _ => 3 - (intOf iv).toNat)
  case atStart => exact ⟨0, by omega, rfl, rfl, rfl⟩
  case round =>
    obtain ⟨i, hi, rfl, rfl, rfl⟩ := hrel
    have c0 := HB.out.cellAt (i := 0) rfl
    have c1' := HB.out.cellAt (i := 1) rfl
    have c2' := HB.out.cellAt (i := 2) rfl
    rcases i with _ | _ | _ | i
    · have hx := HIX.out w 0 (by omega)
      simp only [s3]
      go_wp2
      go_roundw
      case rel => exact ⟨1, by omega, by go_num, rfl, trivial⟩
      case measure => simp [intOf]
    · have hx := HIX.out w 1 (by omega)
      simp only [s3]
      go_wp2
      go_roundw
      case rel => exact ⟨2, by omega, by go_num, rfl, trivial⟩
      case measure => simp [intOf]
    · have hx := HIX.out w 2 (by omega)
      simp only [s3]
      go_wp2
      go_roundw
      case rel => exact ⟨3, by omega, by go_num, rfl, trivial⟩
      case measure => simp [intOf]
    · obtain rfl : i = 0 := by omega
      have hs : s3 n1 n2 n3 (0 + 1 + 1 + 1) = n1 + n2 + n3 := rfl
      rw [hs]
      have hl : n1 + n2 + n3 ≤ 1000000 := by omega
      have hp : 0 < n1 + n2 + n3 := by omega
      have hb1 : n1 ≤ 100000 := by omega
      have hb2 : n1 + n2 ≤ 100000 := by omega
      have hb3 : n3 ≤ 100000 := by omega
      generalize n1 + n2 + n3 = m at *
      clear c0 c1' c2' hs
      go_wp2_with (go_at_call 95; (with_reducible refine (growO_any m hp hl _).mono ?_); rintro e w1 ⟨v1, rfl, ho1, hb1⟩; have HO1 := Lib.hid ho1; have HX1 := Lib.hid hb1; have HB1 := Lib.hid (HB.out.through hb1); clear ho1 hb1)
      go_loopw [6, 27] (fun sv iv wr => ∃ i : Nat, i ≤ 3 ∧ iv = .int .i64 i ∧ Os wr w.heap.size 56 3 sv ((p3 x1 x2 x3 i).map Oc.cells) ∧ Below w.heap.size w wr) (fun _ iv _ => 3 - (intOf iv).toNat)
      case atStart => exact ⟨0, by omega, rfl, HO1.out, HX1.out⟩
      case round =>
        obtain ⟨i, hi, rfl, ho, hx⟩ := hrel
        obtain ⟨An, nn, cn, rfl, hnn⟩ := ho.out'
        have HNN := Lib.hid hnn
        have HO := Lib.hid ho
        have HX := Lib.hid hx
        have HBw := Lib.hid (HB.out.through hx)
        have c0 := HBw.out.cellAt (i := 0) rfl
        have c1' := HBw.out.cellAt (i := 1) rfl
        have c2' := HBw.out.cellAt (i := 2) rfl
        clear ho hx hnn
        rcases i with _ | _ | _ | i
        · have hx := HIX.out wr 0 (by omega)
          have hlen := Lib.hid H1.out.len
          simp only [p3, List.map_nil] at HO ⊢
          go_wp2_with (at_builtin; go_loud (refine wpList_append_sl rfl Tryz.el_oc (.tmp 31) (.tmp 32) rfl w.heap.size (.slice An nn cn) (List.map Oc.cells []) rfl HO.out A1 n1 c1 (x1.map Oc.cells) rfl (H1.out.through HX.out) (Oc.cells_len _) (Oc.cells_one _) (by have h7 := H1.out.len; have h8 := H2.out.len; simp only [List.length_map] at h7 h8; simp; omega) HX.out.size ?_); intro v3 w3 ho3 hg3; have HO2 := Lib.hid ho3; have HX2 : Hid (Below w.heap.size w w3) := Lib.hid (HX.out.grown hg3 HX.out.size (fun q hq => (HO.out.lt q hq).1)); clear ho3 hg3)
          go_roundw
          case rel => exact ⟨1, by omega, by go_num, by simpa [p3] using HO2.out, HX2.out⟩
          case measure => simp [intOf]
        · have hx := HIX.out wr 1 (by omega)
          have hlen := Lib.hid H1.out.len
          have hlen2 := Lib.hid H2.out.len
          simp only [p3] at HO ⊢
          go_wp2_with (at_builtin; go_loud (refine wpList_append_sl rfl Tryz.el_oc (.tmp 31) (.tmp 32) rfl w.heap.size (.slice An nn cn) (List.map Oc.cells x1) rfl HO.out A2 n2 c2 (x2.map Oc.cells) rfl (H2.out.through HX.out) (Oc.cells_len _) (Oc.cells_one _) (by have h7 := H1.out.len; have h8 := H2.out.len; simp only [List.length_map] at h7 h8; simp; omega) HX.out.size ?_); intro v3 w3 ho3 hg3; have HO2 := Lib.hid ho3; have HX2 : Hid (Below w.heap.size w w3) := Lib.hid (HX.out.grown hg3 HX.out.size (fun q hq => (HO.out.lt q hq).1)); clear ho3 hg3)
          go_roundw
          case rel => exact ⟨2, by omega, by go_num, by simpa [p3] using HO2.out, HX2.out⟩
          case measure => simp [intOf]
        · have hx := HIX.out wr 2 (by omega)
          have hlen := Lib.hid H1.out.len
          have hlen2 := Lib.hid H2.out.len
          have hlen3 := Lib.hid H3.out.len
          simp only [p3] at HO ⊢
          go_wp2_with (at_builtin; go_loud (refine wpList_append_sl rfl Tryz.el_oc (.tmp 31) (.tmp 32) rfl w.heap.size (.slice An nn cn) (List.map Oc.cells (x1 ++ x2)) rfl HO.out A3 n3 c3 (x3.map Oc.cells) rfl (H3.out.through HX.out) (Oc.cells_len _) (Oc.cells_one _) (by have h7 := H1.out.len; have h8 := H2.out.len; simp only [List.length_map] at h7 h8; simp; omega) HX.out.size ?_); intro v3 w3 ho3 hg3; have HO2 := Lib.hid ho3; have HX2 : Hid (Below w.heap.size w w3) := Lib.hid (HX.out.grown hg3 HX.out.size (fun q hq => (HO.out.lt q hq).1)); clear ho3 hg3)
          go_roundw
          case rel => exact ⟨3, by omega, by go_num, by simpa [p3] using HO2.out, HX2.out⟩
          case measure => simp [intOf]
        · obtain rfl : i = 0 := by omega
          go_wp2
          go_ret
          exact slOut_of HO.out (Nat.le_refl _) HX.out
end

section
open Go.RowKit
set_option maxHeartbeats 8000000 in
set_option maxRecDepth 100000 in
theorem putL_any (ls : List Lt) (A : Option Addr) (n c : Nat) (x : Lt) (w : World) (h : Sl w 6 A n (ls.map Lt.cells)) (hn : n ≤ 1000) (hnc : n ≤ c) :
    Calls Tryz.prog 64 #[.slice A n c, .agg #[.string (ba x.nm), .int .i64 x.st, .int .i64 x.am, .int .i64 x.du, .string (ba x.po), .string (ba x.pa)], .func (.func 55) #[] #[]] w (SlOut w 6 ((putP (fun y : Lt => cmpS y.nm x.nm) x ls).map Lt.cells)) := by
  have hlen : ls.length = n := by simpa using h.len
  have hpl : ∀ W, Below w.heap.size w W → Calls Tryz.prog 69 #[.slice A n c, .string (ba x.nm), .func (.func 55) #[] #[]] W fun e w' => e = .returned (.tuple #[.int .i64 ((plc (fun y : Lt => cmpS y.nm x.nm) ls).1 : Nat), .bool (plc (fun y : Lt => cmpS y.nm x.nm) ls).2]) ∧ Below W.heap.size W w' := fun W hW => placeL_any ls A n c _ W (h.through hW) (by omega)
  have hle := plc_le (fun y : Lt => cmpS y.nm x.nm) ls
  have hlt : (plc (fun y : Lt => cmpS y.nm x.nm) ls).2 = true → (plc (fun y : Lt => cmpS y.nm x.nm) ls).1 < n := fun hf => by
    obtain ⟨y, hy, _⟩ := plc_lt hf
    have := (List.getElem?_eq_some_iff.1 hy).1
    omega
  have hp : putP (fun y : Lt => cmpS y.nm x.nm) x ls = ls.take (plc (fun y : Lt => cmpS y.nm x.nm) ls).1 ++ [x] ++ ls.drop (if (plc (fun y : Lt => cmpS y.nm x.nm) ls).2 then (plc (fun y : Lt => cmpS y.nm x.nm) ls).1 + 1 else (plc (fun y : Lt => cmpS y.nm x.nm) ls).1) := rfl
  generalize putP (fun y : Lt => cmpS y.nm x.nm) x ls = r at *
  generalize (plc (fun y : Lt => cmpS y.nm x.nm) ls).1 = i at *
  rw [hlen] at hle
  have hT := h.to_ hle
  rw [← List.map_take] at hT
  have hsz : ∀ W, (sizeOf 39).run Tryz.prog W = .ok 6 W := fun W => by kernel_rfl
  have hel : Tryz.prog.elem 22 = 39 := by kernel_rfl
  have hs0 : ∀ W, (Instr.slice 22 (.slice A n c) none (some (.int .i64 (i : Int))) none).run Tryz.prog W = .ok (.slice A i c) W := fun W => by
    rw [run_slice_h (P := Tryz.prog) (w := W) 22 A n c Tryz.underlying22 .i64 i (by omega) (by omega), hel, hsz]
    have e0 : A.map (fun a => a.add (0 * 6)) = A := by cases A <;> simp [Addr.add]
    simp only [Result.andThen_ok, sliced, e0]
    simp
  have hs1 : ∀ (j : Nat) W, j ≤ n → (Instr.slice 22 (.slice A n c) (some (.int .i64 (j : Int))) none none).run Tryz.prog W = .ok (.slice (if c = j then A else A.map (·.add (j * 6))) (n - j) (c - j)) W := fun j W hj => by
    rw [run_slice_l (P := Tryz.prog) (w := W) 22 A n c Tryz.underlying22 .i64 j (by omega) (by omega), hel, hsz]
    simp only [Result.andThen_ok, sliced, Int.toNat_natCast]
  have HT := Lib.hid hT
  obtain ⟨A3, hA3, hD⟩ := h.from_ hle hnc
  rw [← List.map_drop] at hD
  have hs2 := fun W => hs1 i W hle
  rw [hA3] at hs2
  cases hf : (plc (fun y : Lt => cmpS y.nm x.nm) ls).2 with
  | true =>
    have hi1 := hlt hf
    obtain ⟨A4, hA4, hD⟩ := h.from_ (i := i + 1) hi1 hnc
    rw [← List.map_drop] at hD
    have HD := Lib.hid hD
    have hs3 := fun W => hs1 (i + 1) W hi1
    rw [hA4] at hs3
    have hs4 : ∀ W, (Instr.slice 22 (.slice A n c) (some (.int .i64 ((i : Int) + 1))) none none).run Tryz.prog W = .ok (.slice A4 (n - (i + 1)) (c - (i + 1))) W := hs3
    have hwr : IntKind.i64.wrap ((i : Int) + 1) = (i : Int) + 1 := IntWalk.i64_in _ (by omega)
    rw [hf] at hpl hp
    have HPl := Lib.hid hpl
    have HP := Lib.hid hp
    clear hpl hp hf hD hA4 hs3 hA3 hs1 hel hsz hlt h hT hlen
    go_enter Tryz.func64, Tryz.ntmps64
    go_wp2_with (first
      | (go_at_call 55; (with_reducible refine (nameof_any x _).mono ?_); rintro e w1 ⟨rfl, hb1⟩; have HX1 : Hid (Below w.heap.size w w1) := Lib.hid ((below1 w _).trans (hb1.mono (by simp))); have H1 : Hid (Blk w1 w.heap.size 39 [.string (ba x.nm), .int .i64 x.st, .int .i64 x.am, .int .i64 x.du, .string (ba x.po), .string (ba x.pa)]) := Lib.hid ((Blk.fresh rfl rfl : Blk (w.alloc (.cells #[.string (ba x.nm), .int .i64 x.st, .int .i64 x.am, .int .i64 x.du, .string (ba x.po), .string (ba x.pa)] 39)) w.heap.size 39 [.string (ba x.nm), .int .i64 x.st, .int .i64 x.am, .int .i64 x.du, .string (ba x.po), .string (ba x.pa)]).through hb1); clear hb1)
      | (go_at_call 69; (with_reducible refine (HPl.out _ HX1.out).mono ?_); rintro e w2 ⟨rfl, hb2⟩; have HX2 : Hid (Below w.heap.size w w2) := Lib.hid (below_step HX1.out hb2); have H2 := Lib.hid (H1.out.through hb2); clear hb2))
    refine wp_region_held_drew (S := fun W => Below w2.heap.size w2 W) (by kernel_rfl) (Below.refl _ _).drew (fun hHeld => ?_)
    change wpAnyH _ _ _ _ _ _ #[false, false, false, false, false, false, false, false, false] _ _
    refine wpAnyH_take (i := 0) (v := (.slice A n c)) rfl (by kernel_rfl) (by kernel_rfl) (by kernel_rfl) (fun _ _ _ h => h) (Or.inl ⟨by kernel_rfl, fun w hSw => ?_⟩) (by assumption) ?_
    · (try dsimp only at hSw); go_simp <;> (try rfl)
    change wpAnyH _ _ _ _ _ _ _ (Act.put _ (some (27 : Nat)) (.slice A n c)) _
    simp only [Act.put, List.setIfInBounds_toArray, List.set_cons_zero, List.set_cons_succ]
    refine wpAnyH_take (i := 1) (v := (.int .i64 (i : Int))) rfl (by kernel_rfl) (by kernel_rfl) (by kernel_rfl) (fun _ _ _ h => h) (Or.inl ⟨by kernel_rfl, fun w hSw => ?_⟩) (by assumption) ?_
    · (try dsimp only at hSw); go_simp <;> (try rfl)
    change wpAnyH _ _ _ _ _ _ _ (Act.put _ (some (28 : Nat)) (.int .i64 (i : Int))) _
    simp only [Act.put, List.setIfInBounds_toArray, List.set_cons_zero, List.set_cons_succ]
    refine wpAnyH_take (i := 2) (v := (.slice A i c)) rfl (by kernel_rfl) (by kernel_rfl) (by kernel_rfl) (fun _ _ _ h => h) (Or.inl ⟨by kernel_rfl, fun w hSw => ?_⟩) (by assumption) ?_
    · (try dsimp only at hSw); go_simp <;> (try rfl)
    change wpAnyH _ _ _ _ _ _ _ (Act.put _ (some (29 : Nat)) (.slice A i c)) _
    simp only [Act.put, List.setIfInBounds_toArray, List.set_cons_zero, List.set_cons_succ]
    refine wpAnyH_take (i := 3) (v := (.agg #[.string (ba x.nm), .int .i64 x.st, .int .i64 x.am, .int .i64 x.du, .string (ba x.po), .string (ba x.pa)])) rfl (by kernel_rfl) (by kernel_rfl) (by kernel_rfl) (fun _ _ _ h => h) (yields_load_at (by kernel_rfl) 39 (.tmp 4) rfl (.pointer (some ⟨w.heap.size, 0, none⟩)) (by simp [Act.eval]) (.agg #[.string (ba x.nm), .int .i64 x.st, .int .i64 x.am, .int .i64 x.du, .string (ba x.po), .string (ba x.pa)]) (fun W hW => (H2.out.through hW).loadAt 39 _ Tryz.underlying39 rfl (by kernel_rfl))) (by assumption) ?_
    change wpAnyH _ _ _ _ _ _ _ (Act.put _ (some (30 : Nat)) (.agg #[.string (ba x.nm), .int .i64 x.st, .int .i64 x.am, .int .i64 x.du, .string (ba x.po), .string (ba x.pa)])) _
    simp only [Act.put, List.setIfInBounds_toArray, List.set_cons_zero, List.set_cons_succ]
    refine wpAnyH_take (i := 5) (v := (.slice A4 (n - (i + 1)) (c - (i + 1)))) rfl (by kernel_rfl) (by kernel_rfl) (by kernel_rfl) (fun _ _ _ h => h) (Or.inl ⟨by kernel_rfl, fun w hSw => ?_⟩) (by assumption) ?_
    · (try dsimp only at hSw); go_simp <;> (try rfl)
    change wpAnyH _ _ _ _ _ _ _ (Act.put _ (some (32 : Nat)) (.slice A4 (n - (i + 1)) (c - (i + 1)))) _
    simp only [Act.put, List.setIfInBounds_toArray, List.set_cons_zero, List.set_cons_succ]
    refine wpAnyH_ready (rs := [4]) (by kernel_rfl) (by simp) ?_
    refine AllReadyH.cons (o := ⟨some 31, .buildSlice 22 1 #[(0, .tmp 30)], _, _, _, none⟩) rfl (fun K hK => ?_) AllReadyH.nil
    refine step_build_el_w rfl Tryz.el_lt (.tmp 30) rfl [.string (ba x.nm), .int .i64 x.st, .int .i64 x.am, .int .i64 x.du, .string (ba x.po), .string (ba x.pa)] rfl rfl ?_; intro gx wx hbx hkx; have HBx := Lib.hid hbx; have HKx := Lib.hid hkx; clear hbx hkx
    refine hK.out _ _ (below_step hHeld HKx.out) (fun hHeld1 => ?_)
    clear hHeld hK K
    have hHeld := hHeld1
    clear hHeld1
    change wpAnyH _ _ _ _ _ _ _ (Act.put _ (some (31 : Nat)) (.slice (some ⟨gx, 0, none⟩) 1 1)) _
    simp only [Act.put, List.setIfInBounds_toArray, List.set_cons_zero, List.set_cons_succ]
    refine wpAnyH_ready (rs := [6]) (by kernel_rfl) (by simp) ?_
    refine AllReadyH.cons (o := ⟨some 33, .buildSlice 144 3 #[(0, .tmp 29), (1, .tmp 31), (2, .tmp 32)], _, _, _, none⟩) rfl (fun K hK => ?_) AllReadyH.nil
    refine step_build_three_w rfl 144 22 (.tmp 29) (.tmp 31) (.tmp 32) rfl (.slice A i c) (.slice (some ⟨gx, 0, none⟩) 1 1) (.slice A4 (n - (i + 1)) (c - (i + 1))) rfl rfl rfl (by kernel_rfl) ?_; intro gb wb hbb hkb; have HBb := Lib.hid hbb; have HKb := Lib.hid hkb; clear hbb hkb
    refine hK.out _ _ (below_step hHeld HKb.out) (fun hHeld1 => ?_)
    clear hHeld hK K
    have hHeld := hHeld1
    clear hHeld1
    change wpAnyH _ _ _ _ _ _ _ (Act.put _ (some (33 : Nat)) (.slice (some ⟨gb, 0, none⟩) 3 3)) _
    simp only [Act.put, List.setIfInBounds_toArray, List.set_cons_zero, List.set_cons_succ]
    refine wpAnyH_ready (rs := [7]) (by kernel_rfl) (by simp) ?_
    refine AllReadyH.cons rfl (fun K hK => ?_) AllReadyH.nil
    go_simp
    refine (concatL_any gb A (some ⟨gx, 0, none⟩) A4 i 1 (n - (i + 1)) c 1 (c - (i + 1)) (ls.take i) [x] (ls.drop (i + 1)) wb HBb.out (HT.out.through (below_step HX2.out hHeld)) (Sl.one_ (HBx.out.through HKb.out)) (HD.out.through (below_step HX2.out hHeld)) (by omega) (by omega)).mono ?_
    rintro e w7 ⟨A7, n7, c7, rfl, hs7, hc7, hb7, hf7⟩; have HS7 := Lib.hid hs7; have HX7 := Lib.hid hb7; have HF7 := Lib.hid hf7; have HWb := Lib.hid hHeld; clear hs7 hb7 hf7
    go_wp2_with fail
    refine hK.out _ _ (below_step hHeld HX7.out) (fun hHeld1 => ?_)
    clear hHeld hK K
    have hHeld := hHeld1
    clear hHeld1
    refine wpAnyH_take (i := 8) (v := (.slice A7 n7 c7)) rfl (by kernel_rfl) (by kernel_rfl) (by kernel_rfl) (fun _ _ _ h => h) (Or.inl ⟨by kernel_rfl, fun w hSw => ?_⟩) (by assumption) ?_
    · (try dsimp only at hSw); go_simp <;> (try rfl)
    change wpAnyH _ _ _ _ _ _ _ (Act.put _ (some (6 : Nat)) (.slice A7 n7 c7)) _
    simp only [Act.put, List.setIfInBounds_toArray, List.set_cons_zero, List.set_cons_succ]
    refine wpAnyH_done (by kernel_rfl) ?_ _
    have HXe : Hid (Below w.heap.size w w7) := Lib.hid (below_step HX2.out hHeld)
    clear hHeld
    go_wp2
    go_ret
    exact ⟨A7, n7, c7, rfl, by rw [HP.out]; exact HS7.out, hc7, HXe.out, fun a ha => Nat.le_trans (Nat.le_trans HX2.out.size HWb.out.size) (HF7.out a ha)⟩

  | false =>
    have HD := Lib.hid hD
    rw [hf] at hpl hp
    have HPl := Lib.hid hpl
    have HP := Lib.hid hp
    clear hpl hp hf hD hA3 hs1 hel hsz hlt h hT hlen
    go_enter Tryz.func64, Tryz.ntmps64
    go_wp2_with (first
      | (go_at_call 55; (with_reducible refine (nameof_any x _).mono ?_); rintro e w1 ⟨rfl, hb1⟩; have HX1 : Hid (Below w.heap.size w w1) := Lib.hid ((below1 w _).trans (hb1.mono (by simp))); have H1 : Hid (Blk w1 w.heap.size 39 [.string (ba x.nm), .int .i64 x.st, .int .i64 x.am, .int .i64 x.du, .string (ba x.po), .string (ba x.pa)]) := Lib.hid ((Blk.fresh rfl rfl : Blk (w.alloc (.cells #[.string (ba x.nm), .int .i64 x.st, .int .i64 x.am, .int .i64 x.du, .string (ba x.po), .string (ba x.pa)] 39)) w.heap.size 39 [.string (ba x.nm), .int .i64 x.st, .int .i64 x.am, .int .i64 x.du, .string (ba x.po), .string (ba x.pa)]).through hb1); clear hb1)
      | (go_at_call 69; (with_reducible refine (HPl.out _ HX1.out).mono ?_); rintro e w2 ⟨rfl, hb2⟩; have HX2 : Hid (Below w.heap.size w w2) := Lib.hid (below_step HX1.out hb2); have H2 := Lib.hid (H1.out.through hb2); clear hb2))
    refine wp_region_held_drew (S := fun W => Below w2.heap.size w2 W) (by kernel_rfl) (Below.refl _ _).drew (fun hHeld => ?_)
    change wpAnyH _ _ _ _ _ _ #[false, false, false, false, false, false, false, false, false] _ _
    refine wpAnyH_take (i := 0) (v := (.slice A n c)) rfl (by kernel_rfl) (by kernel_rfl) (by kernel_rfl) (fun _ _ _ h => h) (Or.inl ⟨by kernel_rfl, fun w hSw => ?_⟩) (by assumption) ?_
    · (try dsimp only at hSw); go_simp <;> (try rfl)
    change wpAnyH _ _ _ _ _ _ _ (Act.put _ (some (27 : Nat)) (.slice A n c)) _
    simp only [Act.put, List.setIfInBounds_toArray, List.set_cons_zero, List.set_cons_succ]
    refine wpAnyH_take (i := 1) (v := (.int .i64 (i : Int))) rfl (by kernel_rfl) (by kernel_rfl) (by kernel_rfl) (fun _ _ _ h => h) (Or.inl ⟨by kernel_rfl, fun w hSw => ?_⟩) (by assumption) ?_
    · (try dsimp only at hSw); go_simp <;> (try rfl)
    change wpAnyH _ _ _ _ _ _ _ (Act.put _ (some (28 : Nat)) (.int .i64 (i : Int))) _
    simp only [Act.put, List.setIfInBounds_toArray, List.set_cons_zero, List.set_cons_succ]
    refine wpAnyH_take (i := 2) (v := (.slice A i c)) rfl (by kernel_rfl) (by kernel_rfl) (by kernel_rfl) (fun _ _ _ h => h) (Or.inl ⟨by kernel_rfl, fun w hSw => ?_⟩) (by assumption) ?_
    · (try dsimp only at hSw); go_simp <;> (try rfl)
    change wpAnyH _ _ _ _ _ _ _ (Act.put _ (some (29 : Nat)) (.slice A i c)) _
    simp only [Act.put, List.setIfInBounds_toArray, List.set_cons_zero, List.set_cons_succ]
    refine wpAnyH_take (i := 3) (v := (.agg #[.string (ba x.nm), .int .i64 x.st, .int .i64 x.am, .int .i64 x.du, .string (ba x.po), .string (ba x.pa)])) rfl (by kernel_rfl) (by kernel_rfl) (by kernel_rfl) (fun _ _ _ h => h) (yields_load_at (by kernel_rfl) 39 (.tmp 4) rfl (.pointer (some ⟨w.heap.size, 0, none⟩)) (by simp [Act.eval]) (.agg #[.string (ba x.nm), .int .i64 x.st, .int .i64 x.am, .int .i64 x.du, .string (ba x.po), .string (ba x.pa)]) (fun W hW => (H2.out.through hW).loadAt 39 _ Tryz.underlying39 rfl (by kernel_rfl))) (by assumption) ?_
    change wpAnyH _ _ _ _ _ _ _ (Act.put _ (some (30 : Nat)) (.agg #[.string (ba x.nm), .int .i64 x.st, .int .i64 x.am, .int .i64 x.du, .string (ba x.po), .string (ba x.pa)])) _
    simp only [Act.put, List.setIfInBounds_toArray, List.set_cons_zero, List.set_cons_succ]
    refine wpAnyH_take (i := 5) (v := (.slice A3 (n - i) (c - i))) rfl (by kernel_rfl) (by kernel_rfl) (by kernel_rfl) (fun _ _ _ h => h) (Or.inl ⟨by kernel_rfl, fun w hSw => ?_⟩) (by assumption) ?_
    · (try dsimp only at hSw); go_simp <;> (try rfl)
    change wpAnyH _ _ _ _ _ _ _ (Act.put _ (some (32 : Nat)) (.slice A3 (n - i) (c - i))) _
    simp only [Act.put, List.setIfInBounds_toArray, List.set_cons_zero, List.set_cons_succ]
    refine wpAnyH_ready (rs := [4]) (by kernel_rfl) (by simp) ?_
    refine AllReadyH.cons (o := ⟨some 31, .buildSlice 22 1 #[(0, .tmp 30)], _, _, _, none⟩) rfl (fun K hK => ?_) AllReadyH.nil
    refine step_build_el_w rfl Tryz.el_lt (.tmp 30) rfl [.string (ba x.nm), .int .i64 x.st, .int .i64 x.am, .int .i64 x.du, .string (ba x.po), .string (ba x.pa)] rfl rfl ?_; intro gx wx hbx hkx; have HBx := Lib.hid hbx; have HKx := Lib.hid hkx; clear hbx hkx
    refine hK.out _ _ (below_step hHeld HKx.out) (fun hHeld1 => ?_)
    clear hHeld hK K
    have hHeld := hHeld1
    clear hHeld1
    change wpAnyH _ _ _ _ _ _ _ (Act.put _ (some (31 : Nat)) (.slice (some ⟨gx, 0, none⟩) 1 1)) _
    simp only [Act.put, List.setIfInBounds_toArray, List.set_cons_zero, List.set_cons_succ]
    refine wpAnyH_ready (rs := [6]) (by kernel_rfl) (by simp) ?_
    refine AllReadyH.cons (o := ⟨some 33, .buildSlice 144 3 #[(0, .tmp 29), (1, .tmp 31), (2, .tmp 32)], _, _, _, none⟩) rfl (fun K hK => ?_) AllReadyH.nil
    refine step_build_three_w rfl 144 22 (.tmp 29) (.tmp 31) (.tmp 32) rfl (.slice A i c) (.slice (some ⟨gx, 0, none⟩) 1 1) (.slice A3 (n - i) (c - i)) rfl rfl rfl (by kernel_rfl) ?_; intro gb wb hbb hkb; have HBb := Lib.hid hbb; have HKb := Lib.hid hkb; clear hbb hkb
    refine hK.out _ _ (below_step hHeld HKb.out) (fun hHeld1 => ?_)
    clear hHeld hK K
    have hHeld := hHeld1
    clear hHeld1
    change wpAnyH _ _ _ _ _ _ _ (Act.put _ (some (33 : Nat)) (.slice (some ⟨gb, 0, none⟩) 3 3)) _
    simp only [Act.put, List.setIfInBounds_toArray, List.set_cons_zero, List.set_cons_succ]
    refine wpAnyH_ready (rs := [7]) (by kernel_rfl) (by simp) ?_
    refine AllReadyH.cons rfl (fun K hK => ?_) AllReadyH.nil
    go_simp
    refine (concatL_any gb A (some ⟨gx, 0, none⟩) A3 i 1 (n - i) c 1 (c - i) (ls.take i) [x] (ls.drop i) wb HBb.out (HT.out.through (below_step HX2.out hHeld)) (Sl.one_ (HBx.out.through HKb.out)) (HD.out.through (below_step HX2.out hHeld)) (by omega) (by omega)).mono ?_
    rintro e w7 ⟨A7, n7, c7, rfl, hs7, hc7, hb7, hf7⟩; have HS7 := Lib.hid hs7; have HX7 := Lib.hid hb7; have HF7 := Lib.hid hf7; have HWb := Lib.hid hHeld; clear hs7 hb7 hf7
    go_wp2_with fail
    refine hK.out _ _ (below_step hHeld HX7.out) (fun hHeld1 => ?_)
    clear hHeld hK K
    have hHeld := hHeld1
    clear hHeld1
    refine wpAnyH_take (i := 8) (v := (.slice A7 n7 c7)) rfl (by kernel_rfl) (by kernel_rfl) (by kernel_rfl) (fun _ _ _ h => h) (Or.inl ⟨by kernel_rfl, fun w hSw => ?_⟩) (by assumption) ?_
    · (try dsimp only at hSw); go_simp <;> (try rfl)
    change wpAnyH _ _ _ _ _ _ _ (Act.put _ (some (6 : Nat)) (.slice A7 n7 c7)) _
    simp only [Act.put, List.setIfInBounds_toArray, List.set_cons_zero, List.set_cons_succ]
    refine wpAnyH_done (by kernel_rfl) ?_ _
    have HXe : Hid (Below w.heap.size w w7) := Lib.hid (below_step HX2.out hHeld)
    clear hHeld
    go_wp2
    go_ret
    exact ⟨A7, n7, c7, rfl, by rw [HP.out]; exact HS7.out, hc7, HXe.out, fun a ha => Nat.le_trans (Nat.le_trans HX2.out.size HWb.out.size) (HF7.out a ha)⟩


set_option maxHeartbeats 8000000 in
set_option maxRecDepth 100000 in
theorem putO_any (ls : List Oc) (A : Option Addr) (n c : Nat) (x : Oc) (w : World) (h : Sl w 3 A n (ls.map Oc.cells)) (hn : n ≤ 1000) (hnc : n ≤ c) :
    Calls Tryz.prog 43 #[.slice A n c, .agg #[.int .i64 x.cl, .int .i64 x.sp, .int .i64 x.rs], .func (.func 44) #[] #[]] w (SlOut w 3 ((putP (fun y : Oc => cmpI y.cl x.cl) x ls).map Oc.cells)) := by
  have hlen : ls.length = n := by simpa using h.len
  have hpl : ∀ W, Below w.heap.size w W → Calls Tryz.prog 67 #[.slice A n c, .int .i64 x.cl, .func (.func 44) #[] #[]] W fun e w' => e = .returned (.tuple #[.int .i64 ((plc (fun y : Oc => cmpI y.cl x.cl) ls).1 : Nat), .bool (plc (fun y : Oc => cmpI y.cl x.cl) ls).2]) ∧ Below W.heap.size W w' := fun W hW => placeO_any ls A n c _ W (h.through hW) (by omega)
  have hle := plc_le (fun y : Oc => cmpI y.cl x.cl) ls
  have hlt : (plc (fun y : Oc => cmpI y.cl x.cl) ls).2 = true → (plc (fun y : Oc => cmpI y.cl x.cl) ls).1 < n := fun hf => by
    obtain ⟨y, hy, _⟩ := plc_lt hf
    have := (List.getElem?_eq_some_iff.1 hy).1
    omega
  have hp : putP (fun y : Oc => cmpI y.cl x.cl) x ls = ls.take (plc (fun y : Oc => cmpI y.cl x.cl) ls).1 ++ [x] ++ ls.drop (if (plc (fun y : Oc => cmpI y.cl x.cl) ls).2 then (plc (fun y : Oc => cmpI y.cl x.cl) ls).1 + 1 else (plc (fun y : Oc => cmpI y.cl x.cl) ls).1) := rfl
  generalize putP (fun y : Oc => cmpI y.cl x.cl) x ls = r at *
  generalize (plc (fun y : Oc => cmpI y.cl x.cl) ls).1 = i at *
  rw [hlen] at hle
  have hT := h.to_ hle
  rw [← List.map_take] at hT
  have hsz : ∀ W, (sizeOf 56).run Tryz.prog W = .ok 3 W := fun W => by kernel_rfl
  have hel : Tryz.prog.elem 23 = 56 := by kernel_rfl
  have hs0 : ∀ W, (Instr.slice 23 (.slice A n c) none (some (.int .i64 (i : Int))) none).run Tryz.prog W = .ok (.slice A i c) W := fun W => by
    rw [run_slice_h (P := Tryz.prog) (w := W) 23 A n c Tryz.underlying23 .i64 i (by omega) (by omega), hel, hsz]
    have e0 : A.map (fun a => a.add (0 * 3)) = A := by cases A <;> simp [Addr.add]
    simp only [Result.andThen_ok, sliced, e0]
    simp
  have hs1 : ∀ (j : Nat) W, j ≤ n → (Instr.slice 23 (.slice A n c) (some (.int .i64 (j : Int))) none none).run Tryz.prog W = .ok (.slice (if c = j then A else A.map (·.add (j * 3))) (n - j) (c - j)) W := fun j W hj => by
    rw [run_slice_l (P := Tryz.prog) (w := W) 23 A n c Tryz.underlying23 .i64 j (by omega) (by omega), hel, hsz]
    simp only [Result.andThen_ok, sliced, Int.toNat_natCast]
  have HT := Lib.hid hT
  obtain ⟨A3, hA3, hD⟩ := h.from_ hle hnc
  rw [← List.map_drop] at hD
  have hs2 := fun W => hs1 i W hle
  rw [hA3] at hs2
  cases hf : (plc (fun y : Oc => cmpI y.cl x.cl) ls).2 with
  | true =>
    have hi1 := hlt hf
    obtain ⟨A4, hA4, hD⟩ := h.from_ (i := i + 1) hi1 hnc
    rw [← List.map_drop] at hD
    have HD := Lib.hid hD
    have hs3 := fun W => hs1 (i + 1) W hi1
    rw [hA4] at hs3
    have hs4 : ∀ W, (Instr.slice 23 (.slice A n c) (some (.int .i64 ((i : Int) + 1))) none none).run Tryz.prog W = .ok (.slice A4 (n - (i + 1)) (c - (i + 1))) W := hs3
    have hwr : IntKind.i64.wrap ((i : Int) + 1) = (i : Int) + 1 := IntWalk.i64_in _ (by omega)
    rw [hf] at hpl hp
    have HPl := Lib.hid hpl
    have HP := Lib.hid hp
    clear hpl hp hf hD hA4 hs3 hA3 hs1 hel hsz hlt h hT hlen
    go_enter Tryz.func43, Tryz.ntmps43
    go_wp2_with (first
      | (go_at_call 44; (with_reducible refine (clientof_any x _).mono ?_); rintro e w1 ⟨rfl, hb1⟩; have HX1 : Hid (Below w.heap.size w w1) := Lib.hid ((below1 w _).trans (hb1.mono (by simp))); have H1 : Hid (Blk w1 w.heap.size 56 [.int .i64 x.cl, .int .i64 x.sp, .int .i64 x.rs]) := Lib.hid ((Blk.fresh rfl rfl : Blk (w.alloc (.cells #[.int .i64 x.cl, .int .i64 x.sp, .int .i64 x.rs] 56)) w.heap.size 56 [.int .i64 x.cl, .int .i64 x.sp, .int .i64 x.rs]).through hb1); clear hb1)
      | (go_at_call 67; (with_reducible refine (HPl.out _ HX1.out).mono ?_); rintro e w2 ⟨rfl, hb2⟩; have HX2 : Hid (Below w.heap.size w w2) := Lib.hid (below_step HX1.out hb2); have H2 := Lib.hid (H1.out.through hb2); clear hb2))
    refine wp_region_held_drew (S := fun W => Below w2.heap.size w2 W) (by kernel_rfl) (Below.refl _ _).drew (fun hHeld => ?_)
    change wpAnyH _ _ _ _ _ _ #[false, false, false, false, false, false, false, false, false] _ _
    refine wpAnyH_take (i := 0) (v := (.slice A n c)) rfl (by kernel_rfl) (by kernel_rfl) (by kernel_rfl) (fun _ _ _ h => h) (Or.inl ⟨by kernel_rfl, fun w hSw => ?_⟩) (by assumption) ?_
    · (try dsimp only at hSw); go_simp <;> (try rfl)
    change wpAnyH _ _ _ _ _ _ _ (Act.put _ (some (27 : Nat)) (.slice A n c)) _
    simp only [Act.put, List.setIfInBounds_toArray, List.set_cons_zero, List.set_cons_succ]
    refine wpAnyH_take (i := 1) (v := (.int .i64 (i : Int))) rfl (by kernel_rfl) (by kernel_rfl) (by kernel_rfl) (fun _ _ _ h => h) (Or.inl ⟨by kernel_rfl, fun w hSw => ?_⟩) (by assumption) ?_
    · (try dsimp only at hSw); go_simp <;> (try rfl)
    change wpAnyH _ _ _ _ _ _ _ (Act.put _ (some (28 : Nat)) (.int .i64 (i : Int))) _
    simp only [Act.put, List.setIfInBounds_toArray, List.set_cons_zero, List.set_cons_succ]
    refine wpAnyH_take (i := 2) (v := (.slice A i c)) rfl (by kernel_rfl) (by kernel_rfl) (by kernel_rfl) (fun _ _ _ h => h) (Or.inl ⟨by kernel_rfl, fun w hSw => ?_⟩) (by assumption) ?_
    · (try dsimp only at hSw); go_simp <;> (try rfl)
    change wpAnyH _ _ _ _ _ _ _ (Act.put _ (some (29 : Nat)) (.slice A i c)) _
    simp only [Act.put, List.setIfInBounds_toArray, List.set_cons_zero, List.set_cons_succ]
    refine wpAnyH_take (i := 3) (v := (.agg #[.int .i64 x.cl, .int .i64 x.sp, .int .i64 x.rs])) rfl (by kernel_rfl) (by kernel_rfl) (by kernel_rfl) (fun _ _ _ h => h) (yields_load_at (by kernel_rfl) 56 (.tmp 4) rfl (.pointer (some ⟨w.heap.size, 0, none⟩)) (by simp [Act.eval]) (.agg #[.int .i64 x.cl, .int .i64 x.sp, .int .i64 x.rs]) (fun W hW => (H2.out.through hW).loadAt 56 _ Tryz.underlying56 rfl (by kernel_rfl))) (by assumption) ?_
    change wpAnyH _ _ _ _ _ _ _ (Act.put _ (some (30 : Nat)) (.agg #[.int .i64 x.cl, .int .i64 x.sp, .int .i64 x.rs])) _
    simp only [Act.put, List.setIfInBounds_toArray, List.set_cons_zero, List.set_cons_succ]
    refine wpAnyH_take (i := 5) (v := (.slice A4 (n - (i + 1)) (c - (i + 1)))) rfl (by kernel_rfl) (by kernel_rfl) (by kernel_rfl) (fun _ _ _ h => h) (Or.inl ⟨by kernel_rfl, fun w hSw => ?_⟩) (by assumption) ?_
    · (try dsimp only at hSw); go_simp <;> (try rfl)
    change wpAnyH _ _ _ _ _ _ _ (Act.put _ (some (32 : Nat)) (.slice A4 (n - (i + 1)) (c - (i + 1)))) _
    simp only [Act.put, List.setIfInBounds_toArray, List.set_cons_zero, List.set_cons_succ]
    refine wpAnyH_ready (rs := [4]) (by kernel_rfl) (by simp) ?_
    refine AllReadyH.cons (o := ⟨some 31, .buildSlice 23 1 #[(0, .tmp 30)], _, _, _, none⟩) rfl (fun K hK => ?_) AllReadyH.nil
    refine step_build_el_w rfl Tryz.el_oc (.tmp 30) rfl [.int .i64 x.cl, .int .i64 x.sp, .int .i64 x.rs] rfl rfl ?_; intro gx wx hbx hkx; have HBx := Lib.hid hbx; have HKx := Lib.hid hkx; clear hbx hkx
    refine hK.out _ _ (below_step hHeld HKx.out) (fun hHeld1 => ?_)
    clear hHeld hK K
    have hHeld := hHeld1
    clear hHeld1
    change wpAnyH _ _ _ _ _ _ _ (Act.put _ (some (31 : Nat)) (.slice (some ⟨gx, 0, none⟩) 1 1)) _
    simp only [Act.put, List.setIfInBounds_toArray, List.set_cons_zero, List.set_cons_succ]
    refine wpAnyH_ready (rs := [6]) (by kernel_rfl) (by simp) ?_
    refine AllReadyH.cons (o := ⟨some 33, .buildSlice 131 3 #[(0, .tmp 29), (1, .tmp 31), (2, .tmp 32)], _, _, _, none⟩) rfl (fun K hK => ?_) AllReadyH.nil
    refine step_build_three_w rfl 131 23 (.tmp 29) (.tmp 31) (.tmp 32) rfl (.slice A i c) (.slice (some ⟨gx, 0, none⟩) 1 1) (.slice A4 (n - (i + 1)) (c - (i + 1))) rfl rfl rfl (by kernel_rfl) ?_; intro gb wb hbb hkb; have HBb := Lib.hid hbb; have HKb := Lib.hid hkb; clear hbb hkb
    refine hK.out _ _ (below_step hHeld HKb.out) (fun hHeld1 => ?_)
    clear hHeld hK K
    have hHeld := hHeld1
    clear hHeld1
    change wpAnyH _ _ _ _ _ _ _ (Act.put _ (some (33 : Nat)) (.slice (some ⟨gb, 0, none⟩) 3 3)) _
    simp only [Act.put, List.setIfInBounds_toArray, List.set_cons_zero, List.set_cons_succ]
    refine wpAnyH_ready (rs := [7]) (by kernel_rfl) (by simp) ?_
    refine AllReadyH.cons rfl (fun K hK => ?_) AllReadyH.nil
    go_simp
    refine (concatO_any gb A (some ⟨gx, 0, none⟩) A4 i 1 (n - (i + 1)) c 1 (c - (i + 1)) (ls.take i) [x] (ls.drop (i + 1)) wb HBb.out (HT.out.through (below_step HX2.out hHeld)) (Sl.one_ (HBx.out.through HKb.out)) (HD.out.through (below_step HX2.out hHeld)) (by omega) (by omega)).mono ?_
    rintro e w7 ⟨A7, n7, c7, rfl, hs7, hc7, hb7, hf7⟩; have HS7 := Lib.hid hs7; have HX7 := Lib.hid hb7; have HF7 := Lib.hid hf7; have HWb := Lib.hid hHeld; clear hs7 hb7 hf7
    go_wp2_with fail
    refine hK.out _ _ (below_step hHeld HX7.out) (fun hHeld1 => ?_)
    clear hHeld hK K
    have hHeld := hHeld1
    clear hHeld1
    refine wpAnyH_take (i := 8) (v := (.slice A7 n7 c7)) rfl (by kernel_rfl) (by kernel_rfl) (by kernel_rfl) (fun _ _ _ h => h) (Or.inl ⟨by kernel_rfl, fun w hSw => ?_⟩) (by assumption) ?_
    · (try dsimp only at hSw); go_simp <;> (try rfl)
    change wpAnyH _ _ _ _ _ _ _ (Act.put _ (some (6 : Nat)) (.slice A7 n7 c7)) _
    simp only [Act.put, List.setIfInBounds_toArray, List.set_cons_zero, List.set_cons_succ]
    refine wpAnyH_done (by kernel_rfl) ?_ _
    have HXe : Hid (Below w.heap.size w w7) := Lib.hid (below_step HX2.out hHeld)
    clear hHeld
    go_wp2
    go_ret
    exact ⟨A7, n7, c7, rfl, by rw [HP.out]; exact HS7.out, hc7, HXe.out, fun a ha => Nat.le_trans (Nat.le_trans HX2.out.size HWb.out.size) (HF7.out a ha)⟩

  | false =>
    have HD := Lib.hid hD
    rw [hf] at hpl hp
    have HPl := Lib.hid hpl
    have HP := Lib.hid hp
    clear hpl hp hf hD hA3 hs1 hel hsz hlt h hT hlen
    go_enter Tryz.func43, Tryz.ntmps43
    go_wp2_with (first
      | (go_at_call 44; (with_reducible refine (clientof_any x _).mono ?_); rintro e w1 ⟨rfl, hb1⟩; have HX1 : Hid (Below w.heap.size w w1) := Lib.hid ((below1 w _).trans (hb1.mono (by simp))); have H1 : Hid (Blk w1 w.heap.size 56 [.int .i64 x.cl, .int .i64 x.sp, .int .i64 x.rs]) := Lib.hid ((Blk.fresh rfl rfl : Blk (w.alloc (.cells #[.int .i64 x.cl, .int .i64 x.sp, .int .i64 x.rs] 56)) w.heap.size 56 [.int .i64 x.cl, .int .i64 x.sp, .int .i64 x.rs]).through hb1); clear hb1)
      | (go_at_call 67; (with_reducible refine (HPl.out _ HX1.out).mono ?_); rintro e w2 ⟨rfl, hb2⟩; have HX2 : Hid (Below w.heap.size w w2) := Lib.hid (below_step HX1.out hb2); have H2 := Lib.hid (H1.out.through hb2); clear hb2))
    refine wp_region_held_drew (S := fun W => Below w2.heap.size w2 W) (by kernel_rfl) (Below.refl _ _).drew (fun hHeld => ?_)
    change wpAnyH _ _ _ _ _ _ #[false, false, false, false, false, false, false, false, false] _ _
    refine wpAnyH_take (i := 0) (v := (.slice A n c)) rfl (by kernel_rfl) (by kernel_rfl) (by kernel_rfl) (fun _ _ _ h => h) (Or.inl ⟨by kernel_rfl, fun w hSw => ?_⟩) (by assumption) ?_
    · (try dsimp only at hSw); go_simp <;> (try rfl)
    change wpAnyH _ _ _ _ _ _ _ (Act.put _ (some (27 : Nat)) (.slice A n c)) _
    simp only [Act.put, List.setIfInBounds_toArray, List.set_cons_zero, List.set_cons_succ]
    refine wpAnyH_take (i := 1) (v := (.int .i64 (i : Int))) rfl (by kernel_rfl) (by kernel_rfl) (by kernel_rfl) (fun _ _ _ h => h) (Or.inl ⟨by kernel_rfl, fun w hSw => ?_⟩) (by assumption) ?_
    · (try dsimp only at hSw); go_simp <;> (try rfl)
    change wpAnyH _ _ _ _ _ _ _ (Act.put _ (some (28 : Nat)) (.int .i64 (i : Int))) _
    simp only [Act.put, List.setIfInBounds_toArray, List.set_cons_zero, List.set_cons_succ]
    refine wpAnyH_take (i := 2) (v := (.slice A i c)) rfl (by kernel_rfl) (by kernel_rfl) (by kernel_rfl) (fun _ _ _ h => h) (Or.inl ⟨by kernel_rfl, fun w hSw => ?_⟩) (by assumption) ?_
    · (try dsimp only at hSw); go_simp <;> (try rfl)
    change wpAnyH _ _ _ _ _ _ _ (Act.put _ (some (29 : Nat)) (.slice A i c)) _
    simp only [Act.put, List.setIfInBounds_toArray, List.set_cons_zero, List.set_cons_succ]
    refine wpAnyH_take (i := 3) (v := (.agg #[.int .i64 x.cl, .int .i64 x.sp, .int .i64 x.rs])) rfl (by kernel_rfl) (by kernel_rfl) (by kernel_rfl) (fun _ _ _ h => h) (yields_load_at (by kernel_rfl) 56 (.tmp 4) rfl (.pointer (some ⟨w.heap.size, 0, none⟩)) (by simp [Act.eval]) (.agg #[.int .i64 x.cl, .int .i64 x.sp, .int .i64 x.rs]) (fun W hW => (H2.out.through hW).loadAt 56 _ Tryz.underlying56 rfl (by kernel_rfl))) (by assumption) ?_
    change wpAnyH _ _ _ _ _ _ _ (Act.put _ (some (30 : Nat)) (.agg #[.int .i64 x.cl, .int .i64 x.sp, .int .i64 x.rs])) _
    simp only [Act.put, List.setIfInBounds_toArray, List.set_cons_zero, List.set_cons_succ]
    refine wpAnyH_take (i := 5) (v := (.slice A3 (n - i) (c - i))) rfl (by kernel_rfl) (by kernel_rfl) (by kernel_rfl) (fun _ _ _ h => h) (Or.inl ⟨by kernel_rfl, fun w hSw => ?_⟩) (by assumption) ?_
    · (try dsimp only at hSw); go_simp <;> (try rfl)
    change wpAnyH _ _ _ _ _ _ _ (Act.put _ (some (32 : Nat)) (.slice A3 (n - i) (c - i))) _
    simp only [Act.put, List.setIfInBounds_toArray, List.set_cons_zero, List.set_cons_succ]
    refine wpAnyH_ready (rs := [4]) (by kernel_rfl) (by simp) ?_
    refine AllReadyH.cons (o := ⟨some 31, .buildSlice 23 1 #[(0, .tmp 30)], _, _, _, none⟩) rfl (fun K hK => ?_) AllReadyH.nil
    refine step_build_el_w rfl Tryz.el_oc (.tmp 30) rfl [.int .i64 x.cl, .int .i64 x.sp, .int .i64 x.rs] rfl rfl ?_; intro gx wx hbx hkx; have HBx := Lib.hid hbx; have HKx := Lib.hid hkx; clear hbx hkx
    refine hK.out _ _ (below_step hHeld HKx.out) (fun hHeld1 => ?_)
    clear hHeld hK K
    have hHeld := hHeld1
    clear hHeld1
    change wpAnyH _ _ _ _ _ _ _ (Act.put _ (some (31 : Nat)) (.slice (some ⟨gx, 0, none⟩) 1 1)) _
    simp only [Act.put, List.setIfInBounds_toArray, List.set_cons_zero, List.set_cons_succ]
    refine wpAnyH_ready (rs := [6]) (by kernel_rfl) (by simp) ?_
    refine AllReadyH.cons (o := ⟨some 33, .buildSlice 131 3 #[(0, .tmp 29), (1, .tmp 31), (2, .tmp 32)], _, _, _, none⟩) rfl (fun K hK => ?_) AllReadyH.nil
    refine step_build_three_w rfl 131 23 (.tmp 29) (.tmp 31) (.tmp 32) rfl (.slice A i c) (.slice (some ⟨gx, 0, none⟩) 1 1) (.slice A3 (n - i) (c - i)) rfl rfl rfl (by kernel_rfl) ?_; intro gb wb hbb hkb; have HBb := Lib.hid hbb; have HKb := Lib.hid hkb; clear hbb hkb
    refine hK.out _ _ (below_step hHeld HKb.out) (fun hHeld1 => ?_)
    clear hHeld hK K
    have hHeld := hHeld1
    clear hHeld1
    change wpAnyH _ _ _ _ _ _ _ (Act.put _ (some (33 : Nat)) (.slice (some ⟨gb, 0, none⟩) 3 3)) _
    simp only [Act.put, List.setIfInBounds_toArray, List.set_cons_zero, List.set_cons_succ]
    refine wpAnyH_ready (rs := [7]) (by kernel_rfl) (by simp) ?_
    refine AllReadyH.cons rfl (fun K hK => ?_) AllReadyH.nil
    go_simp
    refine (concatO_any gb A (some ⟨gx, 0, none⟩) A3 i 1 (n - i) c 1 (c - i) (ls.take i) [x] (ls.drop i) wb HBb.out (HT.out.through (below_step HX2.out hHeld)) (Sl.one_ (HBx.out.through HKb.out)) (HD.out.through (below_step HX2.out hHeld)) (by omega) (by omega)).mono ?_
    rintro e w7 ⟨A7, n7, c7, rfl, hs7, hc7, hb7, hf7⟩; have HS7 := Lib.hid hs7; have HX7 := Lib.hid hb7; have HF7 := Lib.hid hf7; have HWb := Lib.hid hHeld; clear hs7 hb7 hf7
    go_wp2_with fail
    refine hK.out _ _ (below_step hHeld HX7.out) (fun hHeld1 => ?_)
    clear hHeld hK K
    have hHeld := hHeld1
    clear hHeld1
    refine wpAnyH_take (i := 8) (v := (.slice A7 n7 c7)) rfl (by kernel_rfl) (by kernel_rfl) (by kernel_rfl) (fun _ _ _ h => h) (Or.inl ⟨by kernel_rfl, fun w hSw => ?_⟩) (by assumption) ?_
    · (try dsimp only at hSw); go_simp <;> (try rfl)
    change wpAnyH _ _ _ _ _ _ _ (Act.put _ (some (6 : Nat)) (.slice A7 n7 c7)) _
    simp only [Act.put, List.setIfInBounds_toArray, List.set_cons_zero, List.set_cons_succ]
    refine wpAnyH_done (by kernel_rfl) ?_ _
    have HXe : Hid (Below w.heap.size w w7) := Lib.hid (below_step HX2.out hHeld)
    clear hHeld
    go_wp2
    go_ret
    exact ⟨A7, n7, c7, rfl, by rw [HP.out]; exact HS7.out, hc7, HXe.out, fun a ha => Nat.le_trans (Nat.le_trans HX2.out.size HWb.out.size) (HF7.out a ha)⟩
end

end Go.Proofs.YtfflkodgojiklaaGreatDoor
