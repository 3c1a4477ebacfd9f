/-
  The program's place and get; for letters and for outcomes.
-/
import Derived.Test.YtkbeodlihmmdbaaPgB1
import Derived.Test.YtkbeodlihmmdbaaPgB3
import Derived.Test.YtkbeodlihmmdbaaLgL
namespace Go.Proofs.Ytkbeodlihmmdbaa
open Go.RowKit

theorem ixF_some {α : Type} {p : α → Bool} {l : List α} {i : Nat} (h : l.findIdx? p = some i) : ixF p l = (i : Int) := by unfold ixF; rw [h]
theorem ixF_none {α : Type} {p : α → Bool} {l : List α} (h : l.findIdx? p = none) : ixF p l = -1 := by unfold ixF; rw [h]

set_option maxHeartbeats 8000000 in
set_option maxRecDepth 100000 in
theorem placeL_any (ls : List Lt) (A : Option Addr) (n c : Nat) (k : List UInt8) (w : World) (h : Sl w 6 A n (ls.map Lt.cells)) (hn : n ≤ 1000000) :
    Calls Try.prog 65 #[.slice A n c, .string (ba k), .func (.func 28) #[] #[]] w fun e w' => e = .returned (.tuple #[.int .i64 ((plc (fun x : Lt => cmpS x.nm k) ls).1 : Nat), .bool (plc (fun x : Lt => cmpS x.nm k) ls).2]) ∧ Below w.heap.size w w' := by
  have hlen : ls.length = n := by simpa using h.len
  have hrise : ∀ W, Below w.heap.size w W → Calls Try.prog 42 #[.slice A n c, .func (.func 28) #[] #[]] W fun e w' => e = .returned (.bool (ris (fun a b : Lt => ltS a.nm b.nm) ls)) ∧ Below W.heap.size W w' := fun W hW => risesL_any ls A n c W (h.through hW) hn
  have h2 : ∀ (W : World) (gk g8 g4 : Nat), Below w.heap.size w W → Blk W gk 52 [.func (.func 28) #[] #[]] → Blk W g8 103 [.func (.func 83) #[] #[.pointer (some ⟨gk, 0, none⟩)]] → Blk W g4 9 [.string (ba k)] → Calls Try.prog 86 #[.slice A n c, .func (.func 87) #[] #[.pointer (some ⟨g8, 0, none⟩), .pointer (some ⟨g4, 0, none⟩)]] W fun e w' => e = .returned (.int .i64 (ixF (fun x : Lt => cmpS x.nm k == 0) ls)) ∧ Below W.heap.size W w' := fun W gk g8 g4 hW hk h8 h4 => idx2L_any ls A n c k gk g8 g4 W (h.through hW) hn hk h8 h4
  have h3 : ∀ (W : World) (gk g8 g4 : Nat), Below w.heap.size w W → Blk W gk 52 [.func (.func 28) #[] #[]] → Blk W g8 103 [.func (.func 83) #[] #[.pointer (some ⟨gk, 0, none⟩)]] → Blk W g4 9 [.string (ba k)] → Calls Try.prog 86 #[.slice A n c, .func (.func 88) #[] #[.pointer (some ⟨g8, 0, none⟩), .pointer (some ⟨g4, 0, none⟩)]] W fun e w' => e = .returned (.int .i64 (ixF (fun x : Lt => decide (0 < cmpS x.nm k)) ls)) ∧ Below W.heap.size W w' := fun W gk g8 g4 hW hk h8 h4 => idx3L_any ls A n c k gk g8 g4 W (h.through hW) hn hk h8 h4
  have hb : ris (fun a b : Lt => ltS a.nm b.nm) ls = true → ∀ (W : World) (gk : Nat), Below w.heap.size w W → Blk W gk 52 [.func (.func 28) #[] #[]] → Calls Try.prog 85 #[.slice A n c, .string (ba k), .func (.func 83) #[] #[.pointer (some ⟨gk, 0, none⟩)]] W fun e w' => e = .returned (.tuple #[.int .i64 ((plc (fun x : Lt => cmpS x.nm k) ls).1 : Nat), .bool (plc (fun x : Lt => cmpS x.nm k) ls).2]) ∧ Below W.heap.size W w' := fun hr W gk hW hk => halveL_any ls A n c k gk W (h.through hW) hn hk hr
  obtain ⟨bb, hbb⟩ : ∃ bb, plc (fun x : Lt => cmpS x.nm k) ls = bb := ⟨_, rfl⟩
  rw [hbb] at hb ⊢
  have HBB := Lib.hid hbb
  have HLn := Lib.hid hlen
  clear h hbb hlen
  cases hr : ris (fun a b : Lt => ltS a.nm b.nm) ls with
  | true =>
    rw [hr] at hrise
    have HR := Lib.hid hrise
    have HB := Lib.hid (hb hr)
    clear hrise hb h2 h3 hr
    go_enter Try.func65, Try.ntmps65
    go_wp2_with (first
      | (refine wpList_store_cell rfl 103 (.tmp 8) (.tmp 11) rfl (w.heap.size + 1 + 1) 0 rfl (.func (.func 83) #[] #[.pointer (some ⟨w.heap.size + 1, 0, none⟩)]) rfl rfl rfl (fun w => by kernel_rfl) 103 [.nilFunc] (Blk.fresh (by simp) rfl) (by simp) ?_; intro w3 hb3 hg3; have HX3 : Hid (Below w.heap.size w w3) := Lib.hid (((below2 w (.cells #[.string (ba k)] 9) (.cells #[.func (.func 28) #[] #[]] 52)).alloc (by simp; omega) (.cells #[.nilFunc] 103)).grown hg3 (by simp; omega) (fun q hq => by have := Option.some.inj hq; omega)); have H8 : Hid (Blk w3 (w.heap.size + 1 + 1) 103 [.func (.func 83) #[] #[.pointer (some ⟨w.heap.size + 1, 0, none⟩)]]) := Lib.hid hb3; have H5 : Hid (Blk w3 (w.heap.size + 1) 52 [.func (.func 28) #[] #[]]) := Lib.hid (((Blk.fresh (by simp) rfl : Blk ((w.alloc (.cells #[.string (ba k)] 9)).alloc (.cells #[.func (.func 28) #[] #[]] 52)) (w.heap.size + 1) 52 [.func (.func 28) #[] #[]]).alloc (.cells #[.nilFunc] 103)).grown hg3 (by simp)); have H4 : Hid (Blk w3 w.heap.size 9 [.string (ba k)]) := Lib.hid ((((Blk.fresh rfl rfl : Blk (w.alloc (.cells #[.string (ba k)] 9)) w.heap.size 9 [.string (ba k)]).alloc (.cells #[.func (.func 28) #[] #[]] 52)).alloc (.cells #[.nilFunc] 103)).grown hg3 (by simp; omega)); have c5 := H5.out.cellAt (i := 0) rfl; clear hb3 hg3)
      | (go_at_call 42; (with_reducible refine (HR.out _ HX3.out).mono ?_); rintro e w4 ⟨rfl, hb4⟩; have HX4 : Hid (Below w.heap.size w w4) := Lib.hid (below_step HX3.out hb4); have K4 := Lib.hid (H4.out.through hb4); have K5 := Lib.hid (H5.out.through hb4); have K8 := Lib.hid (H8.out.through hb4); have c4 := K4.out.cellAt (i := 0) rfl; have c8 := K8.out.cellAt (i := 0) rfl; clear hb4)
      | (go_at_call 85; (with_reducible refine (HB.out _ _ HX4.out K5.out).mono ?_); rintro e w5 ⟨rfl, hb5⟩; have HX5 : Hid (Below w.heap.size w w5) := Lib.hid (below_step HX4.out hb5); clear hb5))
    go_ret2
    exact ⟨rfl, HX5.out⟩
  | false =>
    rw [hr] at hrise
    have HR := Lib.hid hrise
    clear hrise hb hr
    cases he : ls.findIdx? (fun x : Lt => cmpS x.nm k == 0) with
    | some i =>
      have hp : bb = (i, true) := by rw [← HBB.out]; unfold plc; rw [he]
      have hv : ixF (fun x : Lt => cmpS x.nm k == 0) ls = (i : Int) := ixF_some he
      rw [hv] at h2
      have H2 := Lib.hid h2
      clear h2 h3 he hv
      subst hp
      go_enter Try.func65, Try.ntmps65
      go_wp2_with (first
        | (refine wpList_store_cell rfl 103 (.tmp 8) (.tmp 11) rfl (w.heap.size + 1 + 1) 0 rfl (.func (.func 83) #[] #[.pointer (some ⟨w.heap.size + 1, 0, none⟩)]) rfl rfl rfl (fun w => by kernel_rfl) 103 [.nilFunc] (Blk.fresh (by simp) rfl) (by simp) ?_; intro w3 hb3 hg3; have HX3 : Hid (Below w.heap.size w w3) := Lib.hid (((below2 w (.cells #[.string (ba k)] 9) (.cells #[.func (.func 28) #[] #[]] 52)).alloc (by simp; omega) (.cells #[.nilFunc] 103)).grown hg3 (by simp; omega) (fun q hq => by have := Option.some.inj hq; omega)); have H8 : Hid (Blk w3 (w.heap.size + 1 + 1) 103 [.func (.func 83) #[] #[.pointer (some ⟨w.heap.size + 1, 0, none⟩)]]) := Lib.hid hb3; have H5 : Hid (Blk w3 (w.heap.size + 1) 52 [.func (.func 28) #[] #[]]) := Lib.hid (((Blk.fresh (by simp) rfl : Blk ((w.alloc (.cells #[.string (ba k)] 9)).alloc (.cells #[.func (.func 28) #[] #[]] 52)) (w.heap.size + 1) 52 [.func (.func 28) #[] #[]]).alloc (.cells #[.nilFunc] 103)).grown hg3 (by simp)); have H4 : Hid (Blk w3 w.heap.size 9 [.string (ba k)]) := Lib.hid ((((Blk.fresh rfl rfl : Blk (w.alloc (.cells #[.string (ba k)] 9)) w.heap.size 9 [.string (ba k)]).alloc (.cells #[.func (.func 28) #[] #[]] 52)).alloc (.cells #[.nilFunc] 103)).grown hg3 (by simp; omega)); have c5 := H5.out.cellAt (i := 0) rfl; clear hb3 hg3)
        | (go_at_call 42; (with_reducible refine (HR.out _ HX3.out).mono ?_); rintro e w4 ⟨rfl, hb4⟩; have HX4 : Hid (Below w.heap.size w w4) := Lib.hid (below_step HX3.out hb4); have K4 := Lib.hid (H4.out.through hb4); have K5 := Lib.hid (H5.out.through hb4); have K8 := Lib.hid (H8.out.through hb4); have c4 := K4.out.cellAt (i := 0) rfl; have c8 := K8.out.cellAt (i := 0) rfl; clear hb4)
        | (go_at_call 86; (with_reducible refine (H2.out _ _ _ _ HX4.out K5.out K8.out K4.out).mono ?_); rintro e w5 ⟨rfl, hb5⟩; have HX5 : Hid (Below w.heap.size w w5) := Lib.hid (below_step HX4.out hb5); have M4 := Lib.hid (K4.out.through hb5); have M5 := Lib.hid (K5.out.through hb5); have M8 := Lib.hid (K8.out.through hb5); clear hb5))
      go_ret2
      exact ⟨rfl, HX5.out⟩
    | none =>
      have hp : bb = (ls.findIdx (fun x : Lt => decide (0 < cmpS x.nm k)), false) := by rw [← HBB.out]; unfold plc; rw [he]
      have hv : ixF (fun x : Lt => cmpS x.nm k == 0) ls = -1 := ixF_none he
      rw [hv] at h2
      have H2 := Lib.hid h2
      clear h2 he hv
      cases hg : ls.findIdx? (fun x : Lt => decide (0 < cmpS x.nm k)) with
      | some i =>
        have hv : ixF (fun x : Lt => decide (0 < cmpS x.nm k)) ls = (i : Int) := ixF_some hg
        rw [hv] at h3
        have H3 := Lib.hid h3
        rw [(findIdx_of_some hg).1] at hp
        clear h3 hg hv
        subst hp
        go_enter Try.func65, Try.ntmps65
        go_wp2_with (first
          | (refine wpList_store_cell rfl 103 (.tmp 8) (.tmp 11) rfl (w.heap.size + 1 + 1) 0 rfl (.func (.func 83) #[] #[.pointer (some ⟨w.heap.size + 1, 0, none⟩)]) rfl rfl rfl (fun w => by kernel_rfl) 103 [.nilFunc] (Blk.fresh (by simp) rfl) (by simp) ?_; intro w3 hb3 hg3; have HX3 : Hid (Below w.heap.size w w3) := Lib.hid (((below2 w (.cells #[.string (ba k)] 9) (.cells #[.func (.func 28) #[] #[]] 52)).alloc (by simp; omega) (.cells #[.nilFunc] 103)).grown hg3 (by simp; omega) (fun q hq => by have := Option.some.inj hq; omega)); have H8 : Hid (Blk w3 (w.heap.size + 1 + 1) 103 [.func (.func 83) #[] #[.pointer (some ⟨w.heap.size + 1, 0, none⟩)]]) := Lib.hid hb3; have H5 : Hid (Blk w3 (w.heap.size + 1) 52 [.func (.func 28) #[] #[]]) := Lib.hid (((Blk.fresh (by simp) rfl : Blk ((w.alloc (.cells #[.string (ba k)] 9)).alloc (.cells #[.func (.func 28) #[] #[]] 52)) (w.heap.size + 1) 52 [.func (.func 28) #[] #[]]).alloc (.cells #[.nilFunc] 103)).grown hg3 (by simp)); have H4 : Hid (Blk w3 w.heap.size 9 [.string (ba k)]) := Lib.hid ((((Blk.fresh rfl rfl : Blk (w.alloc (.cells #[.string (ba k)] 9)) w.heap.size 9 [.string (ba k)]).alloc (.cells #[.func (.func 28) #[] #[]] 52)).alloc (.cells #[.nilFunc] 103)).grown hg3 (by simp; omega)); have c5 := H5.out.cellAt (i := 0) rfl; clear hb3 hg3)
          | (go_at_call 42; (with_reducible refine (HR.out _ HX3.out).mono ?_); rintro e w4 ⟨rfl, hb4⟩; have HX4 : Hid (Below w.heap.size w w4) := Lib.hid (below_step HX3.out hb4); have K4 := Lib.hid (H4.out.through hb4); have K5 := Lib.hid (H5.out.through hb4); have K8 := Lib.hid (H8.out.through hb4); have c4 := K4.out.cellAt (i := 0) rfl; have c8 := K8.out.cellAt (i := 0) rfl; clear hb4)
          | (go_at_call 86; (with_reducible refine (H2.out _ _ _ _ HX4.out K5.out K8.out K4.out).mono ?_); rintro e w5 ⟨rfl, hb5⟩; have HX5 : Hid (Below w.heap.size w w5) := Lib.hid (below_step HX4.out hb5); have M4 := Lib.hid (K4.out.through hb5); have M5 := Lib.hid (K5.out.through hb5); have M8 := Lib.hid (K8.out.through hb5); clear hb5)
          | (go_at_call 86; (with_reducible refine (H3.out _ _ _ _ HX5.out M5.out M8.out M4.out).mono ?_); rintro e w6 ⟨rfl, hb6⟩; have HX6 : Hid (Below w.heap.size w w6) := Lib.hid (below_step HX5.out hb6); clear hb6))
        go_ret2
        exact ⟨rfl, HX6.out⟩
      | none =>
        have hv : ixF (fun x : Lt => decide (0 < cmpS x.nm k)) ls = -1 := ixF_none hg
        rw [hv] at h3
        have H3 := Lib.hid h3
        rw [findIdx_of_none hg, HLn.out] at hp
        clear h3 hg hv
        subst hp
        go_enter Try.func65, Try.ntmps65
        go_wp2_with (first
          | (refine wpList_store_cell rfl 103 (.tmp 8) (.tmp 11) rfl (w.heap.size + 1 + 1) 0 rfl (.func (.func 83) #[] #[.pointer (some ⟨w.heap.size + 1, 0, none⟩)]) rfl rfl rfl (fun w => by kernel_rfl) 103 [.nilFunc] (Blk.fresh (by simp) rfl) (by simp) ?_; intro w3 hb3 hg3; have HX3 : Hid (Below w.heap.size w w3) := Lib.hid (((below2 w (.cells #[.string (ba k)] 9) (.cells #[.func (.func 28) #[] #[]] 52)).alloc (by simp; omega) (.cells #[.nilFunc] 103)).grown hg3 (by simp; omega) (fun q hq => by have := Option.some.inj hq; omega)); have H8 : Hid (Blk w3 (w.heap.size + 1 + 1) 103 [.func (.func 83) #[] #[.pointer (some ⟨w.heap.size + 1, 0, none⟩)]]) := Lib.hid hb3; have H5 : Hid (Blk w3 (w.heap.size + 1) 52 [.func (.func 28) #[] #[]]) := Lib.hid (((Blk.fresh (by simp) rfl : Blk ((w.alloc (.cells #[.string (ba k)] 9)).alloc (.cells #[.func (.func 28) #[] #[]] 52)) (w.heap.size + 1) 52 [.func (.func 28) #[] #[]]).alloc (.cells #[.nilFunc] 103)).grown hg3 (by simp)); have H4 : Hid (Blk w3 w.heap.size 9 [.string (ba k)]) := Lib.hid ((((Blk.fresh rfl rfl : Blk (w.alloc (.cells #[.string (ba k)] 9)) w.heap.size 9 [.string (ba k)]).alloc (.cells #[.func (.func 28) #[] #[]] 52)).alloc (.cells #[.nilFunc] 103)).grown hg3 (by simp; omega)); have c5 := H5.out.cellAt (i := 0) rfl; clear hb3 hg3)
          | (go_at_call 42; (with_reducible refine (HR.out _ HX3.out).mono ?_); rintro e w4 ⟨rfl, hb4⟩; have HX4 : Hid (Below w.heap.size w w4) := Lib.hid (below_step HX3.out hb4); have K4 := Lib.hid (H4.out.through hb4); have K5 := Lib.hid (H5.out.through hb4); have K8 := Lib.hid (H8.out.through hb4); have c4 := K4.out.cellAt (i := 0) rfl; have c8 := K8.out.cellAt (i := 0) rfl; clear hb4)
          | (go_at_call 86; (with_reducible refine (H2.out _ _ _ _ HX4.out K5.out K8.out K4.out).mono ?_); rintro e w5 ⟨rfl, hb5⟩; have HX5 : Hid (Below w.heap.size w w5) := Lib.hid (below_step HX4.out hb5); have M4 := Lib.hid (K4.out.through hb5); have M5 := Lib.hid (K5.out.through hb5); have M8 := Lib.hid (K8.out.through hb5); clear hb5)
          | (go_at_call 86; (with_reducible refine (H3.out _ _ _ _ HX5.out M5.out M8.out M4.out).mono ?_); rintro e w6 ⟨rfl, hb6⟩; have HX6 : Hid (Below w.heap.size w w6) := Lib.hid (below_step HX5.out hb6); clear hb6))
        go_ret2
        exact ⟨rfl, HX6.out⟩

set_option maxHeartbeats 8000000 in
set_option maxRecDepth 100000 in
theorem getL_any (ls : List Lt) (A : Option Addr) (n c : Nat) (k : List UInt8) (w : World) (h : Sl w 6 A n (ls.map Lt.cells)) (hn : n ≤ 1000000) :
    Calls Try.prog 33 #[.slice A n c, .string (ba k), .func (.func 28) #[] #[]] w fun e w' => e = .returned (.tuple #[.agg (findR (getP (fun x : Lt => cmpS x.nm k) ls)).1.cells.toArray, .bool (findR (getP (fun x : Lt => cmpS x.nm k) ls)).2]) ∧ Below w.heap.size w w' := by
  have HI := Lib.hid h
  have hz := Try.zero_lt
  have HIX := Lib.hid Try.ix_lt
  have hp : ∀ W, Below w.heap.size w W → Calls Try.prog 65 #[.slice A n c, .string (ba k), .func (.func 28) #[] #[]] W fun e w' => e = .returned (.tuple #[.int .i64 ((plc (fun x : Lt => cmpS x.nm k) ls).1 : Nat), .bool (plc (fun x : Lt => cmpS x.nm k) ls).2]) ∧ Below W.heap.size W w' := fun W hW => placeL_any ls A n c k W (h.through hW) hn
  have hlen : ls.length = n := by simpa using h.len
  cases hf : (plc (fun x : Lt => cmpS x.nm k) ls).2 with
  | true =>
    obtain ⟨x, hx, _⟩ := plc_lt hf
    have hg : getP (fun x : Lt => cmpS x.nm k) ls = some x := by unfold getP; rw [hf, if_pos rfl, hx]
    rw [hg]
    simp only [hf] at hp
    generalize (plc (fun x : Lt => cmpS x.nm k) ls).1 = i at *
    have HP := Lib.hid hp
    have hi : i < n := by have := (List.getElem?_eq_some_iff.1 hx).1; omega
    obtain ⟨g, o, x', rfl, hx', _⟩ := h.at_lt hi
    obtain rfl : x = x' := by rw [hx] at hx'; exact Option.some.inj hx'
    have HXi := Lib.hid hx
    have hix := fun W => HIX.out W g o n c i hi
    have HA : Hid (∀ W, Below w.heap.size w W → W.rangeAt g (o + i * 6) x.cells) := Lib.hid fun W hW => by
      obtain ⟨g2, o2, x2, e2, hx2, _, _, hr2⟩ := (HI.out.through hW).at_lt hi
      obtain ⟨rfl, rfl⟩ : g = g2 ∧ o = o2 := by simpa using e2
      obtain rfl : x = x2 := by rw [HXi.out] at hx2; exact Option.some.inj hx2
      exact hr2
    clear hp hf hg h hlen hx hx'
    go_enter Try.func33, Try.ntmps33
    go_wp2_with (first
      | (go_at_call 65; (with_reducible refine (HP.out _ (below1 w _)).mono ?_); rintro e w1 ⟨rfl, hb1⟩; have HX1 : Hid (Below w.heap.size w w1) := Lib.hid ((below1 w _).trans (hb1.mono (by simp))); have H6 : Hid (Blk w1 w.heap.size 27 [.string (ba []), .int .i64 0, .int .i64 0, .int .i64 0, .string (ba []), .string (ba [])]) := Lib.hid ((Blk.fresh rfl rfl : Blk (w.alloc (.cells #[.string (ba []), .int .i64 0, .int .i64 0, .int .i64 0, .string (ba []), .string (ba [])] 27)) w.heap.size 27 [.string (ba []), .int .i64 0, .int .i64 0, .int .i64 0, .string (ba []), .string (ba [])]).through hb1); clear hb1)
      | (refine wpList_load_mid rfl 27 (.tmp 23) rfl g (o + i * 6) rfl [.string (ba x.nm), .int .i64 x.st, .int .i64 x.am, .int .i64 x.du, .string (ba x.po), .string (ba x.pa)] _ (HA.out _ HX1.out) Try.underlying27 rfl (by kernel_rfl) ?_)
      | (refine wpList_store_blk rfl 27 (.tmp 6) (.tmp 24) rfl w.heap.size [.string (ba x.nm), .int .i64 x.st, .int .i64 x.am, .int .i64 x.du, .string (ba x.po), .string (ba x.pa)] rfl rfl 27 [.string (ba []), .int .i64 0, .int .i64 0, .int .i64 0, .string (ba []), .string (ba [])] H6.out (by kernel_rfl) rfl (one6 _ _ _ _ _ _) ?_; intro wb hbb hgb; have HBb := Lib.hid hbb; have HXb : Hid (Below w.heap.size w wb) := Lib.hid (HX1.out.grown hgb HX1.out.size (fun k hk => by have := Option.some.inj hk; omega)); clear hbb hgb))
    (try simp only [Exit.inBlock, Exit.then]); refine bodyPost_ret (results_cell_row_tmp1 rfl _ _ w.heap.size 27 _ (0, 0) _ rfl HBb.out Try.underlying27 rfl (by kernel_rfl)) rfl ⟨rfl, HXb.out⟩
  | false =>
    have hg : getP (fun x : Lt => cmpS x.nm k) ls = none := by unfold getP; rw [hf]; rfl
    rw [hg]
    simp only [hf] at hp
    generalize (plc (fun x : Lt => cmpS x.nm k) ls).1 = i at *
    have HP := Lib.hid hp
    clear hp hf hg h hlen
    go_enter Try.func33, Try.ntmps33
    go_wp2_with (first
      | (go_at_call 65; (with_reducible refine (HP.out _ (below1 w _)).mono ?_); rintro e w1 ⟨rfl, hb1⟩; have HX1 : Hid (Below w.heap.size w w1) := Lib.hid ((below1 w _).trans (hb1.mono (by simp))); have H6 : Hid (Blk w1 w.heap.size 27 [.string (ba []), .int .i64 0, .int .i64 0, .int .i64 0, .string (ba []), .string (ba [])]) := Lib.hid ((Blk.fresh rfl rfl : Blk (w.alloc (.cells #[.string (ba []), .int .i64 0, .int .i64 0, .int .i64 0, .string (ba []), .string (ba [])] 27)) w.heap.size 27 [.string (ba []), .int .i64 0, .int .i64 0, .int .i64 0, .string (ba []), .string (ba [])]).through hb1); clear hb1)
      | (refine wpList_store_blk rfl 27 (.tmp 6) (.tmp 20) rfl w.heap.size [.string (ba []), .int .i64 0, .int .i64 0, .int .i64 0, .string (ba []), .string (ba [])] rfl rfl 27 [.string (ba []), .int .i64 0, .int .i64 0, .int .i64 0, .string (ba []), .string (ba [])] (H6.out.alloc _) (by kernel_rfl) rfl (one6 _ _ _ _ _ _) ?_; intro wb hbb hgb; have HBb := Lib.hid hbb; have HXb : Hid (Below w.heap.size w wb) := Lib.hid ((HX1.out.alloc HX1.out.size _).grown hgb (HX1.out.alloc HX1.out.size _).size (fun k hk => by have := Option.some.inj hk; omega)); clear hbb hgb))
    (try simp only [Exit.inBlock, Exit.then]); refine bodyPost_ret (results_cell_row_tmp1 rfl _ _ w.heap.size 27 _ (0, 0) _ rfl HBb.out Try.underlying27 rfl (by kernel_rfl)) rfl ⟨rfl, HXb.out⟩

set_option maxHeartbeats 8000000 in
set_option maxRecDepth 100000 in
theorem placeO_any (ls : List Oc) (A : Option Addr) (n c : Nat) (k : Int) (w : World) (h : Sl w 3 A n (ls.map Oc.cells)) (hn : n ≤ 1000000) :
    Calls Try.prog 67 #[.slice A n c, .int .i64 k, .func (.func 32) #[] #[]] w fun e w' => e = .returned (.tuple #[.int .i64 ((plc (fun x : Oc => cmpI x.cl k) ls).1 : Nat), .bool (plc (fun x : Oc => cmpI x.cl k) ls).2]) ∧ Below w.heap.size w w' := by
  have hlen : ls.length = n := by simpa using h.len
  have hrise : ∀ W, Below w.heap.size w W → Calls Try.prog 45 #[.slice A n c, .func (.func 32) #[] #[]] W fun e w' => e = .returned (.bool (ris (fun a b : Oc => decide (a.cl < b.cl)) ls)) ∧ Below W.heap.size W w' := fun W hW => risesO_any ls A n c W (h.through hW) hn
  have h2 : ∀ (W : World) (gk g8 g4 : Nat), Below w.heap.size w W → Blk W gk 56 [.func (.func 32) #[] #[]] → Blk W g8 109 [.func (.func 90) #[] #[.pointer (some ⟨gk, 0, none⟩)]] → Blk W g4 3 [.int .i64 k] → Calls Try.prog 93 #[.slice A n c, .func (.func 94) #[] #[.pointer (some ⟨g8, 0, none⟩), .pointer (some ⟨g4, 0, none⟩)]] W fun e w' => e = .returned (.int .i64 (ixF (fun x : Oc => cmpI x.cl k == 0) ls)) ∧ Below W.heap.size W w' := fun W gk g8 g4 hW hk h8 h4 => idx2O_any ls A n c k gk g8 g4 W (h.through hW) hn hk h8 h4
  have h3 : ∀ (W : World) (gk g8 g4 : Nat), Below w.heap.size w W → Blk W gk 56 [.func (.func 32) #[] #[]] → Blk W g8 109 [.func (.func 90) #[] #[.pointer (some ⟨gk, 0, none⟩)]] → Blk W g4 3 [.int .i64 k] → Calls Try.prog 93 #[.slice A n c, .func (.func 95) #[] #[.pointer (some ⟨g8, 0, none⟩), .pointer (some ⟨g4, 0, none⟩)]] W fun e w' => e = .returned (.int .i64 (ixF (fun x : Oc => decide (0 < cmpI x.cl k)) ls)) ∧ Below W.heap.size W w' := fun W gk g8 g4 hW hk h8 h4 => idx3O_any ls A n c k gk g8 g4 W (h.through hW) hn hk h8 h4
  have hb : ris (fun a b : Oc => decide (a.cl < b.cl)) ls = true → ∀ (W : World) (gk : Nat), Below w.heap.size w W → Blk W gk 56 [.func (.func 32) #[] #[]] → Calls Try.prog 92 #[.slice A n c, .int .i64 k, .func (.func 90) #[] #[.pointer (some ⟨gk, 0, none⟩)]] W fun e w' => e = .returned (.tuple #[.int .i64 ((plc (fun x : Oc => cmpI x.cl k) ls).1 : Nat), .bool (plc (fun x : Oc => cmpI x.cl k) ls).2]) ∧ Below W.heap.size W w' := fun hr W gk hW hk => halveO_any ls A n c k gk W (h.through hW) hn hk hr
  obtain ⟨bb, hbb⟩ : ∃ bb, plc (fun x : Oc => cmpI x.cl k) ls = bb := ⟨_, rfl⟩
  rw [hbb] at hb ⊢
  have HBB := Lib.hid hbb
  have HLn := Lib.hid hlen
  clear h hbb hlen
  cases hr : ris (fun a b : Oc => decide (a.cl < b.cl)) ls with
  | true =>
    rw [hr] at hrise
    have HR := Lib.hid hrise
    have HB := Lib.hid (hb hr)
    clear hrise hb h2 h3 hr
    go_enter Try.func67, Try.ntmps67
    go_wp2_with (first
      | (refine wpList_store_cell rfl 109 (.tmp 8) (.tmp 11) rfl (w.heap.size + 1 + 1) 0 rfl (.func (.func 90) #[] #[.pointer (some ⟨w.heap.size + 1, 0, none⟩)]) rfl rfl rfl (fun w => by kernel_rfl) 109 [.nilFunc] (Blk.fresh (by simp) rfl) (by simp) ?_; intro w3 hb3 hg3; have HX3 : Hid (Below w.heap.size w w3) := Lib.hid (((below2 w (.cells #[.int .i64 k] 3) (.cells #[.func (.func 32) #[] #[]] 56)).alloc (by simp; omega) (.cells #[.nilFunc] 109)).grown hg3 (by simp; omega) (fun q hq => by have := Option.some.inj hq; omega)); have H8 : Hid (Blk w3 (w.heap.size + 1 + 1) 109 [.func (.func 90) #[] #[.pointer (some ⟨w.heap.size + 1, 0, none⟩)]]) := Lib.hid hb3; have H5 : Hid (Blk w3 (w.heap.size + 1) 56 [.func (.func 32) #[] #[]]) := Lib.hid (((Blk.fresh (by simp) rfl : Blk ((w.alloc (.cells #[.int .i64 k] 3)).alloc (.cells #[.func (.func 32) #[] #[]] 56)) (w.heap.size + 1) 56 [.func (.func 32) #[] #[]]).alloc (.cells #[.nilFunc] 109)).grown hg3 (by simp)); have H4 : Hid (Blk w3 w.heap.size 3 [.int .i64 k]) := Lib.hid ((((Blk.fresh rfl rfl : Blk (w.alloc (.cells #[.int .i64 k] 3)) w.heap.size 3 [.int .i64 k]).alloc (.cells #[.func (.func 32) #[] #[]] 56)).alloc (.cells #[.nilFunc] 109)).grown hg3 (by simp; omega)); have c5 := H5.out.cellAt (i := 0) rfl; clear hb3 hg3)
      | (go_at_call 45; (with_reducible refine (HR.out _ HX3.out).mono ?_); rintro e w4 ⟨rfl, hb4⟩; have HX4 : Hid (Below w.heap.size w w4) := Lib.hid (below_step HX3.out hb4); have K4 := Lib.hid (H4.out.through hb4); have K5 := Lib.hid (H5.out.through hb4); have K8 := Lib.hid (H8.out.through hb4); have c4 := K4.out.cellAt (i := 0) rfl; have c8 := K8.out.cellAt (i := 0) rfl; clear hb4)
      | (go_at_call 92; (with_reducible refine (HB.out _ _ HX4.out K5.out).mono ?_); rintro e w5 ⟨rfl, hb5⟩; have HX5 : Hid (Below w.heap.size w w5) := Lib.hid (below_step HX4.out hb5); clear hb5))
    go_ret2
    exact ⟨rfl, HX5.out⟩
  | false =>
    rw [hr] at hrise
    have HR := Lib.hid hrise
    clear hrise hb hr
    cases he : ls.findIdx? (fun x : Oc => cmpI x.cl k == 0) with
    | some i =>
      have hp : bb = (i, true) := by rw [← HBB.out]; unfold plc; rw [he]
      have hv : ixF (fun x : Oc => cmpI x.cl k == 0) ls = (i : Int) := ixF_some he
      rw [hv] at h2
      have H2 := Lib.hid h2
      clear h2 h3 he hv
      subst hp
      go_enter Try.func67, Try.ntmps67
      go_wp2_with (first
        | (refine wpList_store_cell rfl 109 (.tmp 8) (.tmp 11) rfl (w.heap.size + 1 + 1) 0 rfl (.func (.func 90) #[] #[.pointer (some ⟨w.heap.size + 1, 0, none⟩)]) rfl rfl rfl (fun w => by kernel_rfl) 109 [.nilFunc] (Blk.fresh (by simp) rfl) (by simp) ?_; intro w3 hb3 hg3; have HX3 : Hid (Below w.heap.size w w3) := Lib.hid (((below2 w (.cells #[.int .i64 k] 3) (.cells #[.func (.func 32) #[] #[]] 56)).alloc (by simp; omega) (.cells #[.nilFunc] 109)).grown hg3 (by simp; omega) (fun q hq => by have := Option.some.inj hq; omega)); have H8 : Hid (Blk w3 (w.heap.size + 1 + 1) 109 [.func (.func 90) #[] #[.pointer (some ⟨w.heap.size + 1, 0, none⟩)]]) := Lib.hid hb3; have H5 : Hid (Blk w3 (w.heap.size + 1) 56 [.func (.func 32) #[] #[]]) := Lib.hid (((Blk.fresh (by simp) rfl : Blk ((w.alloc (.cells #[.int .i64 k] 3)).alloc (.cells #[.func (.func 32) #[] #[]] 56)) (w.heap.size + 1) 56 [.func (.func 32) #[] #[]]).alloc (.cells #[.nilFunc] 109)).grown hg3 (by simp)); have H4 : Hid (Blk w3 w.heap.size 3 [.int .i64 k]) := Lib.hid ((((Blk.fresh rfl rfl : Blk (w.alloc (.cells #[.int .i64 k] 3)) w.heap.size 3 [.int .i64 k]).alloc (.cells #[.func (.func 32) #[] #[]] 56)).alloc (.cells #[.nilFunc] 109)).grown hg3 (by simp; omega)); have c5 := H5.out.cellAt (i := 0) rfl; clear hb3 hg3)
        | (go_at_call 45; (with_reducible refine (HR.out _ HX3.out).mono ?_); rintro e w4 ⟨rfl, hb4⟩; have HX4 : Hid (Below w.heap.size w w4) := Lib.hid (below_step HX3.out hb4); have K4 := Lib.hid (H4.out.through hb4); have K5 := Lib.hid (H5.out.through hb4); have K8 := Lib.hid (H8.out.through hb4); have c4 := K4.out.cellAt (i := 0) rfl; have c8 := K8.out.cellAt (i := 0) rfl; clear hb4)
        | (go_at_call 93; (with_reducible refine (H2.out _ _ _ _ HX4.out K5.out K8.out K4.out).mono ?_); rintro e w5 ⟨rfl, hb5⟩; have HX5 : Hid (Below w.heap.size w w5) := Lib.hid (below_step HX4.out hb5); have M4 := Lib.hid (K4.out.through hb5); have M5 := Lib.hid (K5.out.through hb5); have M8 := Lib.hid (K8.out.through hb5); clear hb5))
      go_ret2
      exact ⟨rfl, HX5.out⟩
    | none =>
      have hp : bb = (ls.findIdx (fun x : Oc => decide (0 < cmpI x.cl k)), false) := by rw [← HBB.out]; unfold plc; rw [he]
      have hv : ixF (fun x : Oc => cmpI x.cl k == 0) ls = -1 := ixF_none he
      rw [hv] at h2
      have H2 := Lib.hid h2
      clear h2 he hv
      cases hg : ls.findIdx? (fun x : Oc => decide (0 < cmpI x.cl k)) with
      | some i =>
        have hv : ixF (fun x : Oc => decide (0 < cmpI x.cl k)) ls = (i : Int) := ixF_some hg
        rw [hv] at h3
        have H3 := Lib.hid h3
        rw [(findIdx_of_some hg).1] at hp
        clear h3 hg hv
        subst hp
        go_enter Try.func67, Try.ntmps67
        go_wp2_with (first
          | (refine wpList_store_cell rfl 109 (.tmp 8) (.tmp 11) rfl (w.heap.size + 1 + 1) 0 rfl (.func (.func 90) #[] #[.pointer (some ⟨w.heap.size + 1, 0, none⟩)]) rfl rfl rfl (fun w => by kernel_rfl) 109 [.nilFunc] (Blk.fresh (by simp) rfl) (by simp) ?_; intro w3 hb3 hg3; have HX3 : Hid (Below w.heap.size w w3) := Lib.hid (((below2 w (.cells #[.int .i64 k] 3) (.cells #[.func (.func 32) #[] #[]] 56)).alloc (by simp; omega) (.cells #[.nilFunc] 109)).grown hg3 (by simp; omega) (fun q hq => by have := Option.some.inj hq; omega)); have H8 : Hid (Blk w3 (w.heap.size + 1 + 1) 109 [.func (.func 90) #[] #[.pointer (some ⟨w.heap.size + 1, 0, none⟩)]]) := Lib.hid hb3; have H5 : Hid (Blk w3 (w.heap.size + 1) 56 [.func (.func 32) #[] #[]]) := Lib.hid (((Blk.fresh (by simp) rfl : Blk ((w.alloc (.cells #[.int .i64 k] 3)).alloc (.cells #[.func (.func 32) #[] #[]] 56)) (w.heap.size + 1) 56 [.func (.func 32) #[] #[]]).alloc (.cells #[.nilFunc] 109)).grown hg3 (by simp)); have H4 : Hid (Blk w3 w.heap.size 3 [.int .i64 k]) := Lib.hid ((((Blk.fresh rfl rfl : Blk (w.alloc (.cells #[.int .i64 k] 3)) w.heap.size 3 [.int .i64 k]).alloc (.cells #[.func (.func 32) #[] #[]] 56)).alloc (.cells #[.nilFunc] 109)).grown hg3 (by simp; omega)); have c5 := H5.out.cellAt (i := 0) rfl; clear hb3 hg3)
          | (go_at_call 45; (with_reducible refine (HR.out _ HX3.out).mono ?_); rintro e w4 ⟨rfl, hb4⟩; have HX4 : Hid (Below w.heap.size w w4) := Lib.hid (below_step HX3.out hb4); have K4 := Lib.hid (H4.out.through hb4); have K5 := Lib.hid (H5.out.through hb4); have K8 := Lib.hid (H8.out.through hb4); have c4 := K4.out.cellAt (i := 0) rfl; have c8 := K8.out.cellAt (i := 0) rfl; clear hb4)
          | (go_at_call 93; (with_reducible refine (H2.out _ _ _ _ HX4.out K5.out K8.out K4.out).mono ?_); rintro e w5 ⟨rfl, hb5⟩; have HX5 : Hid (Below w.heap.size w w5) := Lib.hid (below_step HX4.out hb5); have M4 := Lib.hid (K4.out.through hb5); have M5 := Lib.hid (K5.out.through hb5); have M8 := Lib.hid (K8.out.through hb5); clear hb5)
          | (go_at_call 93; (with_reducible refine (H3.out _ _ _ _ HX5.out M5.out M8.out M4.out).mono ?_); rintro e w6 ⟨rfl, hb6⟩; have HX6 : Hid (Below w.heap.size w w6) := Lib.hid (below_step HX5.out hb6); clear hb6))
        go_ret2
        exact ⟨rfl, HX6.out⟩
      | none =>
        have hv : ixF (fun x : Oc => decide (0 < cmpI x.cl k)) ls = -1 := ixF_none hg
        rw [hv] at h3
        have H3 := Lib.hid h3
        rw [findIdx_of_none hg, HLn.out] at hp
        clear h3 hg hv
        subst hp
        go_enter Try.func67, Try.ntmps67
        go_wp2_with (first
          | (refine wpList_store_cell rfl 109 (.tmp 8) (.tmp 11) rfl (w.heap.size + 1 + 1) 0 rfl (.func (.func 90) #[] #[.pointer (some ⟨w.heap.size + 1, 0, none⟩)]) rfl rfl rfl (fun w => by kernel_rfl) 109 [.nilFunc] (Blk.fresh (by simp) rfl) (by simp) ?_; intro w3 hb3 hg3; have HX3 : Hid (Below w.heap.size w w3) := Lib.hid (((below2 w (.cells #[.int .i64 k] 3) (.cells #[.func (.func 32) #[] #[]] 56)).alloc (by simp; omega) (.cells #[.nilFunc] 109)).grown hg3 (by simp; omega) (fun q hq => by have := Option.some.inj hq; omega)); have H8 : Hid (Blk w3 (w.heap.size + 1 + 1) 109 [.func (.func 90) #[] #[.pointer (some ⟨w.heap.size + 1, 0, none⟩)]]) := Lib.hid hb3; have H5 : Hid (Blk w3 (w.heap.size + 1) 56 [.func (.func 32) #[] #[]]) := Lib.hid (((Blk.fresh (by simp) rfl : Blk ((w.alloc (.cells #[.int .i64 k] 3)).alloc (.cells #[.func (.func 32) #[] #[]] 56)) (w.heap.size + 1) 56 [.func (.func 32) #[] #[]]).alloc (.cells #[.nilFunc] 109)).grown hg3 (by simp)); have H4 : Hid (Blk w3 w.heap.size 3 [.int .i64 k]) := Lib.hid ((((Blk.fresh rfl rfl : Blk (w.alloc (.cells #[.int .i64 k] 3)) w.heap.size 3 [.int .i64 k]).alloc (.cells #[.func (.func 32) #[] #[]] 56)).alloc (.cells #[.nilFunc] 109)).grown hg3 (by simp; omega)); have c5 := H5.out.cellAt (i := 0) rfl; clear hb3 hg3)
          | (go_at_call 45; (with_reducible refine (HR.out _ HX3.out).mono ?_); rintro e w4 ⟨rfl, hb4⟩; have HX4 : Hid (Below w.heap.size w w4) := Lib.hid (below_step HX3.out hb4); have K4 := Lib.hid (H4.out.through hb4); have K5 := Lib.hid (H5.out.through hb4); have K8 := Lib.hid (H8.out.through hb4); have c4 := K4.out.cellAt (i := 0) rfl; have c8 := K8.out.cellAt (i := 0) rfl; clear hb4)
          | (go_at_call 93; (with_reducible refine (H2.out _ _ _ _ HX4.out K5.out K8.out K4.out).mono ?_); rintro e w5 ⟨rfl, hb5⟩; have HX5 : Hid (Below w.heap.size w w5) := Lib.hid (below_step HX4.out hb5); have M4 := Lib.hid (K4.out.through hb5); have M5 := Lib.hid (K5.out.through hb5); have M8 := Lib.hid (K8.out.through hb5); clear hb5)
          | (go_at_call 93; (with_reducible refine (H3.out _ _ _ _ HX5.out M5.out M8.out M4.out).mono ?_); rintro e w6 ⟨rfl, hb6⟩; have HX6 : Hid (Below w.heap.size w w6) := Lib.hid (below_step HX5.out hb6); clear hb6))
        go_ret2
        exact ⟨rfl, HX6.out⟩

set_option maxHeartbeats 8000000 in
set_option maxRecDepth 100000 in
theorem getO_any (ls : List Oc) (A : Option Addr) (n c : Nat) (k : Int) (w : World) (h : Sl w 3 A n (ls.map Oc.cells)) (hn : n ≤ 1000000) :
    Calls Try.prog 34 #[.slice A n c, .int .i64 k, .func (.func 32) #[] #[]] w fun e w' => e = .returned (.tuple #[.agg (lastR (getP (fun x : Oc => cmpI x.cl k) ls)).1.cells.toArray, .bool (lastR (getP (fun x : Oc => cmpI x.cl k) ls)).2]) ∧ Below w.heap.size w w' := by
  have HI := Lib.hid h
  have hz := Try.zero_oc
  have HIX := Lib.hid Try.ix_oc
  have hp : ∀ W, Below w.heap.size w W → Calls Try.prog 67 #[.slice A n c, .int .i64 k, .func (.func 32) #[] #[]] W fun e w' => e = .returned (.tuple #[.int .i64 ((plc (fun x : Oc => cmpI x.cl k) ls).1 : Nat), .bool (plc (fun x : Oc => cmpI x.cl k) ls).2]) ∧ Below W.heap.size W w' := fun W hW => placeO_any ls A n c k W (h.through hW) hn
  have hlen : ls.length = n := by simpa using h.len
  cases hf : (plc (fun x : Oc => cmpI x.cl k) ls).2 with
  | true =>
    obtain ⟨x, hx, _⟩ := plc_lt hf
    have hg : getP (fun x : Oc => cmpI x.cl k) ls = some x := by unfold getP; rw [hf, if_pos rfl, hx]
    rw [hg]
    simp only [hf] at hp
    generalize (plc (fun x : Oc => cmpI x.cl k) ls).1 = i at *
    have HP := Lib.hid hp
    have hi : i < n := by have := (List.getElem?_eq_some_iff.1 hx).1; omega
    obtain ⟨g, o, x', rfl, hx', _⟩ := h.at_oc hi
    obtain rfl : x = x' := by rw [hx] at hx'; exact Option.some.inj hx'
    have HXi := Lib.hid hx
    have hix := fun W => HIX.out W g o n c i hi
    have HA : Hid (∀ W, Below w.heap.size w W → W.rangeAt g (o + i * 3) x.cells) := Lib.hid fun W hW => by
      obtain ⟨g2, o2, x2, e2, hx2, _, _, hr2⟩ := (HI.out.through hW).at_oc hi
      obtain ⟨rfl, rfl⟩ : g = g2 ∧ o = o2 := by simpa using e2
      obtain rfl : x = x2 := by rw [HXi.out] at hx2; exact Option.some.inj hx2
      exact hr2
    clear hp hf hg h hlen hx hx'
    go_enter Try.func34, Try.ntmps34
    go_wp2_with (first
      | (go_at_call 67; (with_reducible refine (HP.out _ (below1 w _)).mono ?_); rintro e w1 ⟨rfl, hb1⟩; have HX1 : Hid (Below w.heap.size w w1) := Lib.hid ((below1 w _).trans (hb1.mono (by simp))); have H6 : Hid (Blk w1 w.heap.size 30 [.int .i64 0, .int .i64 0, .int .i64 0]) := Lib.hid ((Blk.fresh rfl rfl : Blk (w.alloc (.cells #[.int .i64 0, .int .i64 0, .int .i64 0] 30)) w.heap.size 30 [.int .i64 0, .int .i64 0, .int .i64 0]).through hb1); clear hb1)
      | (refine wpList_load_mid rfl 30 (.tmp 23) rfl g (o + i * 3) rfl [.int .i64 x.cl, .int .i64 x.sp, .int .i64 x.rs] _ (HA.out _ HX1.out) Try.underlying30 rfl (by kernel_rfl) ?_)
      | (refine wpList_store_blk rfl 30 (.tmp 6) (.tmp 24) rfl w.heap.size [.int .i64 x.cl, .int .i64 x.sp, .int .i64 x.rs] rfl rfl 30 [.int .i64 0, .int .i64 0, .int .i64 0] H6.out (by kernel_rfl) rfl (one3i _ _ _) ?_; intro wb hbb hgb; have HBb := Lib.hid hbb; have HXb : Hid (Below w.heap.size w wb) := Lib.hid (HX1.out.grown hgb HX1.out.size (fun k hk => by have := Option.some.inj hk; omega)); clear hbb hgb))
    (try simp only [Exit.inBlock, Exit.then]); refine bodyPost_ret (results_cell_row_tmp1 rfl _ _ w.heap.size 30 _ (0, 0) _ rfl HBb.out Try.underlying30 rfl (by kernel_rfl)) rfl ⟨rfl, HXb.out⟩
  | false =>
    have hg : getP (fun x : Oc => cmpI x.cl k) ls = none := by unfold getP; rw [hf]; rfl
    rw [hg]
    simp only [hf] at hp
    generalize (plc (fun x : Oc => cmpI x.cl k) ls).1 = i at *
    have HP := Lib.hid hp
    clear hp hf hg h hlen
    go_enter Try.func34, Try.ntmps34
    go_wp2_with (first
      | (go_at_call 67; (with_reducible refine (HP.out _ (below1 w _)).mono ?_); rintro e w1 ⟨rfl, hb1⟩; have HX1 : Hid (Below w.heap.size w w1) := Lib.hid ((below1 w _).trans (hb1.mono (by simp))); have H6 : Hid (Blk w1 w.heap.size 30 [.int .i64 0, .int .i64 0, .int .i64 0]) := Lib.hid ((Blk.fresh rfl rfl : Blk (w.alloc (.cells #[.int .i64 0, .int .i64 0, .int .i64 0] 30)) w.heap.size 30 [.int .i64 0, .int .i64 0, .int .i64 0]).through hb1); clear hb1)
      | (refine wpList_store_blk rfl 30 (.tmp 6) (.tmp 20) rfl w.heap.size [.int .i64 0, .int .i64 0, .int .i64 0] rfl rfl 30 [.int .i64 0, .int .i64 0, .int .i64 0] (H6.out.alloc _) (by kernel_rfl) rfl (one3i _ _ _) ?_; intro wb hbb hgb; have HBb := Lib.hid hbb; have HXb : Hid (Below w.heap.size w wb) := Lib.hid ((HX1.out.alloc HX1.out.size _).grown hgb (HX1.out.alloc HX1.out.size _).size (fun k hk => by have := Option.some.inj hk; omega)); clear hbb hgb))
    (try simp only [Exit.inBlock, Exit.then]); refine bodyPost_ret (results_cell_row_tmp1 rfl _ _ w.heap.size 30 _ (0, 0) _ rfl HBb.out Try.underlying30 rfl (by kernel_rfl)) rfl ⟨rfl, HXb.out⟩

end Go.Proofs.Ytkbeodlihmmdbaa
