/-
  OctetsReads: the walk of the law.
-/
import Derived.Test.YtjjfleiebebblaaFixed
import Derived.Test.YtjjfleiebebblaaRRow
import Derived.Deep.RegionHeld3
import Derived.Deep.RegionWith
import Derived.Outline
namespace Go.Proofs.Ytjjfleiebebblaa
open Go.RowKit

/-- A slice of steps that came in: each one's four cells. -/
def StepsIn (w : World) (L : Option Addr) (m : Nat) (ks ns los his : Nat → Int) : Prop :=
  0 < m → ∃ b o, L = some ⟨b, o, none⟩ ∧ ∀ i, i < m →
    w.cell? ⟨b, o + i * 4, none⟩ = some (.int .u8 (ks i)) ∧ w.cell? ⟨b, o + i * 4 + 1, none⟩ = some (.int .i64 (ns i)) ∧
    w.cell? ⟨b, o + i * 4 + 2, none⟩ = some (.int .i64 (los i)) ∧ w.cell? ⟨b, o + i * 4 + 3, none⟩ = some (.int .i64 (his i)) ∧
    0 ≤ ks i ∧ ks i < 256 ∧ ns i ≤ 9223372036854775807
theorem StepsIn.through {w w' : World} {L : Option Addr} {m : Nat} {ks ns los his : Nat → Int} (h : StepsIn w L m ks ns los his) (hb : Below w.heap.size w w') : StepsIn w' L m ks ns los his := fun hm => by
  obtain ⟨b, o, e, hc⟩ := h hm
  refine ⟨b, o, e, fun i hi => ?_⟩
  obtain ⟨h0, h1, h2, h3, r⟩ := hc i hi
  have lt : b < w.heap.size := World.block_lt_of_cell? w ⟨b, o + i * 4, none⟩ h0
  exact ⟨(hb.cell (p := ⟨b, _, none⟩) lt).trans h0, (hb.cell (p := ⟨b, _, none⟩) lt).trans h1, (hb.cell (p := ⟨b, _, none⟩) lt).trans h2, (hb.cell (p := ⟨b, _, none⟩) lt).trans h3, r⟩

theorem rngX_le (xs : List UInt8) (er k lo hi : Int) : (rngX xs er k lo hi).length ≤ xs.length := by
  unfold rngX
  split
  · split
    · exact numX_le _ _ _
    · simp
  · exact numX_le _ _ _
theorem rowX_le (xs : List UInt8) (er most : Int) : (rowX xs er most).length ≤ xs.length := by
  unfold rowX
  exact Nat.le_trans (takeX_le _ _ _) (Nat.le_trans (upX_le _ _ _ _) (numX_le _ _ _))
theorem str_by2 {w : World} {Q : Nat → Prop} {A : Option Addr} {n : Nat} {xs : List UInt8} (c : Nat) (h : By w Q A n xs) : (convert 22 9 (.slice A n c)).run Try.prog w = .ok (.string ⟨xs.toArray⟩) w :=
  run_string_by (P := Try.prog) w 22 9 5 Try.underlying22 Try.underlying5 Try.underlying9 Q A n c xs h

/-- Another reader, kept. -/
theorem RS.keep2 {w w' : World} {g g' : Nat} {t t' : TypeId} {xs ys : List UInt8} {er er' : Int} (h : RS w g t xs er) (h' : RS w g' t' ys er') (hg : w.grownBy w' (some g')) (hne : t ≠ t') (h5 : t' ≠ 5) : RS w' g t xs er := by
  obtain ⟨cs, hc⟩ := h'.block
  exact h.keep hg hc hne h5
theorem RS.fresh {w : World} {g : Nat} {t : TypeId} {xs : List UInt8} {er : Int} (h : RS w g t xs er) (o : Obj) : RS (w.alloc o).drew g t xs er :=
  h.below ((Below.refl _ w).alloc (Nat.le_refl _) o).drew
theorem RS.lt {w : World} {g : Nat} {t : TypeId} {xs : List UInt8} {er : Int} (h : RS w g t xs er) : g < w.heap.size := by
  obtain ⟨cs, hc⟩ := h.block
  exact (Array.getElem?_eq_some_iff.1 hc).1
theorem By.keep2 {w w' : World} {g' : Nat} {t' : TypeId} {ys : List UInt8} {er' : Int} {A : Option Addr} {n : Nat} {xs : List UInt8} (h : By w (Bk w) A n xs) (h' : RS w g' t' ys er') (hg : w.grownBy w' (some g')) (h5 : t' ≠ 5) : By w' (Bk w') A n xs := by
  obtain ⟨cs, hc⟩ := h'.block
  exact h.keepBk hg fun k hk => by injection hk with hk; subst hk; exact ⟨cs, t', hc, h5⟩

/-- The step's own numbers, in block b. -/
def Three (W : World) (b : Nat) (N LO HI : Int) : Prop :=
  W.cell? ⟨b, 1, none⟩ = some (.int .i64 N) ∧ W.cell? ⟨b, 2, none⟩ = some (.int .i64 LO) ∧ W.cell? ⟨b, 3, none⟩ = some (.int .i64 HI)
theorem Three.new (w : World) (K N LO HI : Int) : Three (w.alloc (.cells #[.int .u8 K, .int .i64 N, .int .i64 LO, .int .i64 HI] 32)).drew w.heap.size N LO HI := by
  have h : ∀ i, (w.alloc (.cells #[.int .u8 K, .int .i64 N, .int .i64 LO, .int .i64 HI] 32)).drew.cell? ⟨w.heap.size, i, none⟩ = (#[Value.int .u8 K, .int .i64 N, .int .i64 LO, .int .i64 HI] : Array Value)[i]? := fun i =>
    cell_of_row _ w.heap.size i _ _ _ (heap_alloc_new w _)
  exact ⟨h 1, h 2, h 3⟩
theorem Three.keep {w w' : World} {b g : Nat} {N LO HI : Int} (h : Three w b N LO HI) (hg : w.grownBy w' (some g)) (hne : b ≠ g) : Three w' b N LO HI :=
  ⟨hg.cell h.1 (fun e => hne (by injection e)), hg.cell h.2.1 (fun e => hne (by injection e)), hg.cell h.2.2 (fun e => hne (by injection e))⟩

set_option maxHeartbeats 4000000 in
set_option maxRecDepth 100000 in
theorem reads_walk (Q : Nat → Prop) (A : Option Addr) (n c : Nat) (xs : List UInt8) (L : Option Addr) (m d : Nat) (ks ns los his : Nat → Int) (w : World)
    (h : By w Q A n xs) (h2 : StepsIn w L m ks ns los his) (hn : n ≤ 500) (hm : m ≤ 60) :
    Calls Try.prog 3 #[.slice A n c, .slice L m d] w fun e w' => e = .returned (.bool true) ∧ Below w.heap.size w w' := by
  obtain ⟨i0, hi, hz0, hz1, hz2⟩ := info_parts Try.info_u8
  have H := Lib.hid h
  have H2 := Lib.hid h2
  clear h h2
  have hg1 : decide (500 < (n : Int)) = false := by simp; omega
  have hg2 : decide (60 < (m : Int)) = false := by simp; omega
  go_enter Try.func3, Try.ntmps3
  go_wp2_with (first
    | (go_at_call 6; refine (fixed_ok _).mono ?_; rintro e w1 ⟨rfl, hb1⟩)
    | (go_at_call 7; refine (read_any Q A n c xs _ (H.out.through hb1) (by omega)).mono ?_; rintro e w2 ⟨g, rfl, hr, hb2, hg⟩; have HR2 := Lib.hid hr; have HG := Lib.hid hg; clear hr hg)
    | (at_builtin; refine wpList_append_by _ rfl (.tmp 22) (.tmp 23) 22 rfl w2.heap.size i0 Try.underlying22 hi hz0 hz1 hz2 _ 0 [] rfl (World.ownsRow_made w2 #[] 0 (Nat.le_refl _) (Nat.zero_le _) rfl) Q A n c xs rfl (((H.out.through hb1).through hb2).alloc _) (by omega) (by simp) ?_; intro v3 w3 hown3 hgrow3 _; simp only [Nat.zero_add, List.nil_append] at hown3; have hb3 : Below w2.heap.size w2 w3 := ((Below.refl _ w2).alloc (Nat.le_refl _) _).grown hgrow3 (by simp) (by intro k hk; simp [Act.eval, Value.ownBlock] at hk; omega); clear hgrow3; obtain ⟨B3, c3, rfl, hc3, _⟩ := own_form hown3; have O3 := Lib.hid hown3; clear hown3))
  have HQ3 := RS.new tQ O3.out
  have b3 : Below w.heap.size w w3 := (hb1.trans (hb2.mono hb1.size)).trans (hb3.mono (Nat.le_trans hb1.size hb2.size))
  have hgw : w.heap.size ≤ g := Nat.le_trans hb1.size HG.out
  have HR3 : RS (w3.alloc (.cells #[.slice B3 n c3, .int .i64 0] tQ)) g tR xs 0 := (HR2.out.below hb3).below ((Below.refl _ _).alloc (Nat.le_refl _) _)
  have hxl : xs.length ≤ 500 := by rw [H.out.len]; exact hn
  have b4 : Below w.heap.size w (w3.alloc (.cells #[.slice B3 n c3, .int .i64 0] tQ)) := b3.alloc b3.size _
  have hg2 : w.heap.size ≤ w3.heap.size := b3.size
  have HR := Lib.hid HR3
  have HQ := Lib.hid HQ3
  have B4 := Lib.hid b4
  clear HR3 HQ3 b3 b4 hb1 hb2 hb3 O3 HR2 HG
  go_loopw [29] (fun i wr => ∃ (j : Nat) (ys : List UInt8) (er : Int), j ≤ m ∧ i = .int .i64 j ∧ ys.length ≤ 500 ∧ RS wr g tR ys er ∧ RS wr w3.heap.size tQ ys er ∧ Below w.heap.size w wr) (fun i _ => m - (intOf i).toNat)
  case atStart => exact ⟨0, xs, 0, Nat.zero_le _, rfl, hxl, HR.out, HQ.out, B4.out⟩
  case round =>
    obtain ⟨j, ys, er, hj, rfl, hyl, hr, hq, hb⟩ := hrel
    have KR := Lib.hid hr
    have KQ := Lib.hid hq
    have KB := Lib.hid hb
    clear hr hq hb HR HQ B4 hxl
    by_cases hlt : j < m
    · obtain ⟨bb, oo, rfl, hst⟩ := H2.out.through KB.out (by omega)
      obtain ⟨s0, s1, s2, s3, hk0, hk1, hn1⟩ := hst j hlt
      clear hst
      generalize ks j = K at *
      generalize ns j = N at *
      generalize los j = LO at *
      generalize his j = HI at *
      have hcase : K % 5 = 0 ∨ K % 5 = 1 ∨ K % 5 = 2 ∨ K % 5 = 3 ∨ K % 5 = 4 := by omega
      rcases hcase with hc | hc | hc | hc | hc
      · have R0 := Lib.hid (KR.out.fresh (.cells #[.int .u8 K, .int .i64 N, .int .i64 LO, .int .i64 HI] 32))
        have Q0 := Lib.hid (KQ.out.fresh (.cells #[.int .u8 K, .int .i64 N, .int .i64 LO, .int .i64 HI] 32))
        have z0 := Lib.hid (Three.new wr K N LO HI)
        have n1 : wr.heap.size ≠ g := by have := KR.out.lt; omega
        have n2 : wr.heap.size ≠ w3.heap.size := by have := KQ.out.lt; omega
        have hy40 : ys.length ≤ 1099511627776 := by omega
        go_wp2_with fail
        go_region_held3 (fun W => W.cell? ⟨wr.heap.size, 1, none⟩ = some (.int .i64 N) ∧ W.cell? ⟨wr.heap.size, 2, none⟩ = some (.int .i64 LO) ∧ W.cell? ⟨wr.heap.size, 3, none⟩ = some (.int .i64 HI))
          (first | exact z0.out | exact z5.out | exact z6.out)
          (first
          | (go_at_call 8; refine (number_any g ys er N _ R0.out).mono ?_; rintro e w5 ⟨rfl, hr, ho⟩; have R5 := Lib.hid hr; have H5 := Lib.hid ho; have Q5 := Lib.hid (Q0.out.keep2 R0.out ho (by decide) (by decide)); have z5 := Lib.hid (z0.out.keep ho n1); clear hr ho)
          | (go_at_call 9; refine (rnumber_any w3.heap.size ys er N hy40 _ Q5.out).mono ?_; rintro e w6 ⟨rfl, hr, ho⟩; have Q6 := Lib.hid hr; have H6 := Lib.hid ho; have R6 := Lib.hid (R5.out.keep2 Q5.out ho (by decide) (by decide)); have z6 := Lib.hid (z5.out.keep ho n2); clear hr ho))
        all_goals go_wp2_with (first
          | (go_at_call 18; refine (end_any g _ _ _ R6.out).mono ?_; rintro e w7 ⟨rfl, rfl⟩)
          | (go_at_call 19; refine (rend_any w3.heap.size _ _ _ Q6.out).mono ?_; rintro e w7 ⟨rfl, rfl⟩))
        all_goals go_roundw
        all_goals first
          | exact ⟨j + 1, numX ys er N, numE ys er N, by omega, by go_num, Nat.le_trans (numX_le _ _ _) hyl, R6.out, Q6.out, ((KB.out.alloc KB.out.size _).drew.grown H5.out (Nat.le_trans KB.out.size (by simp)) (fun k hk => by injection hk with hk; omega)).grown H6.out (Nat.le_trans (Nat.le_trans KB.out.size (by simp)) H5.out.size) (fun k hk => by injection hk with hk; omega)⟩
          | (simp [intOf]; omega)
      · have R0 := Lib.hid (KR.out.fresh (.cells #[.int .u8 K, .int .i64 N, .int .i64 LO, .int .i64 HI] 32))
        have Q0 := Lib.hid (KQ.out.fresh (.cells #[.int .u8 K, .int .i64 N, .int .i64 LO, .int .i64 HI] 32))
        have z0 := Lib.hid (Three.new wr K N LO HI)
        have n1 : wr.heap.size ≠ g := by have := KR.out.lt; omega
        have n2 : wr.heap.size ≠ w3.heap.size := by have := KQ.out.lt; omega
        have hy40 : ys.length ≤ 1099511627776 := by omega
        go_wp2_with fail
        go_region_held3 (fun W => W.cell? ⟨wr.heap.size, 1, none⟩ = some (.int .i64 N) ∧ W.cell? ⟨wr.heap.size, 2, none⟩ = some (.int .i64 LO) ∧ W.cell? ⟨wr.heap.size, 3, none⟩ = some (.int .i64 HI))
          (first | exact z0.out | exact z5.out | exact z6.out)
          (first
          | (go_at_call 10; refine (range_any g ys er N LO HI _ R0.out).mono ?_; rintro e w5 ⟨rfl, hr, ho⟩; have R5 := Lib.hid hr; have H5 := Lib.hid ho; have Q5 := Lib.hid (Q0.out.keep2 R0.out ho (by decide) (by decide)); have z5 := Lib.hid (z0.out.keep ho n1); clear hr ho)
          | (go_at_call 11; refine (rrange_any w3.heap.size ys er N LO HI hy40 _ Q5.out).mono ?_; rintro e w6 ⟨rfl, hr, ho⟩; have Q6 := Lib.hid hr; have H6 := Lib.hid ho; have R6 := Lib.hid (R5.out.keep2 Q5.out ho (by decide) (by decide)); have z6 := Lib.hid (z5.out.keep ho n2); clear hr ho))
        all_goals go_wp2_with (first
          | (go_at_call 18; refine (end_any g _ _ _ R6.out).mono ?_; rintro e w7 ⟨rfl, rfl⟩)
          | (go_at_call 19; refine (rend_any w3.heap.size _ _ _ Q6.out).mono ?_; rintro e w7 ⟨rfl, rfl⟩))
        all_goals go_roundw
        all_goals first
          | exact ⟨j + 1, rngX ys er N LO HI, rngE ys er N LO HI, by omega, by go_num, Nat.le_trans (rngX_le _ _ _ _ _) hyl, R6.out, Q6.out, ((KB.out.alloc KB.out.size _).drew.grown H5.out (Nat.le_trans KB.out.size (by simp)) (fun k hk => by injection hk with hk; omega)).grown H6.out (Nat.le_trans (Nat.le_trans KB.out.size (by simp)) H5.out.size) (fun k hk => by injection hk with hk; omega)⟩
          | (simp [intOf]; omega)
      · have R0 := Lib.hid (KR.out.fresh (.cells #[.int .u8 K, .int .i64 N, .int .i64 LO, .int .i64 HI] 32))
        have Q0 := Lib.hid (KQ.out.fresh (.cells #[.int .u8 K, .int .i64 N, .int .i64 LO, .int .i64 HI] 32))
        have z0 := Lib.hid (Three.new wr K N LO HI)
        have n1 : wr.heap.size ≠ g := by have := KR.out.lt; omega
        have n2 : wr.heap.size ≠ w3.heap.size := by have := KQ.out.lt; omega
        have hy40 : ys.length ≤ 1099511627776 := by omega
        go_wp2_with fail
        have k0 := z0.out.1
        go_region_with (first
          | (go_at_call 12; refine (rowm_any g ys er N hy40 _ R0.out).mono ?_; rintro e w5 ⟨B5, m5, c5, rfl, _, hy, hr, ho⟩; have R5 := Lib.hid hr; have H5 := Lib.hid ho; have Y5 := Lib.hid hy; have Q5 := Lib.hid (Q0.out.keep2 R0.out ho (by decide) (by decide)); have k5 := (z0.out.keep ho n1).1; have s5 := str_by2 c5 hy; clear hr ho hy)
          | (go_at_call 13; refine (rrowm_any w3.heap.size ys er N hn1 hy40 _ Q5.out).mono ?_; rintro e w6 ⟨B6, m6, c6, rfl, _, hy, hr, ho⟩; have Q6 := Lib.hid hr; have H6 := Lib.hid ho; have R6 := Lib.hid (R5.out.keep2 Q5.out ho (by decide) (by decide)); have s6 := str_by2 c6 hy; have t6 := str_by2 c5 (Y5.out.keep2 Q5.out ho (by decide)); clear hr ho hy))
        all_goals go_wp2_with (first
          | (go_at_call 18; refine (end_any g _ _ _ R6.out).mono ?_; rintro e w7 ⟨rfl, rfl⟩)
          | (go_at_call 19; refine (rend_any w3.heap.size _ _ _ Q6.out).mono ?_; rintro e w7 ⟨rfl, rfl⟩))
        all_goals go_roundw
        all_goals first
          | exact ⟨j + 1, rowX ys er N, rowE ys er N, by omega, by go_num, Nat.le_trans (rowX_le _ _ _) hyl, R6.out, Q6.out, ((KB.out.alloc KB.out.size _).drew.grown H5.out (Nat.le_trans KB.out.size (by simp)) (fun k hk => by injection hk with hk; omega)).grown H6.out (Nat.le_trans (Nat.le_trans KB.out.size (by simp)) H5.out.size) (fun k hk => by injection hk with hk; omega)⟩
          | (simp [intOf]; omega)
      · have R0 := Lib.hid (KR.out.fresh (.cells #[.int .u8 K, .int .i64 N, .int .i64 LO, .int .i64 HI] 32))
        have Q0 := Lib.hid (KQ.out.fresh (.cells #[.int .u8 K, .int .i64 N, .int .i64 LO, .int .i64 HI] 32))
        have z0 := Lib.hid (Three.new wr K N LO HI)
        have n1 : wr.heap.size ≠ g := by have := KR.out.lt; omega
        have n2 : wr.heap.size ≠ w3.heap.size := by have := KQ.out.lt; omega
        have hy40 : ys.length ≤ 1099511627776 := by omega
        go_wp2_with fail
        have k0 := z0.out.1
        go_region_with (first
          | (go_at_call 14; refine (fixed_any g ys er N hy40 _ R0.out).mono ?_; rintro e w5 ⟨B5, m5, c5, rfl, _, hy, hr, ho⟩; have R5 := Lib.hid hr; have H5 := Lib.hid ho; have Y5 := Lib.hid hy; have Q5 := Lib.hid (Q0.out.keep2 R0.out ho (by decide) (by decide)); have k5 := (z0.out.keep ho n1).1; have s5 := str_by2 c5 hy; clear hr ho hy)
          | (go_at_call 15; refine (rfixed_any w3.heap.size ys er N hy40 _ Q5.out).mono ?_; rintro e w6 ⟨B6, m6, c6, rfl, _, hy, hr, ho⟩; have Q6 := Lib.hid hr; have H6 := Lib.hid ho; have R6 := Lib.hid (R5.out.keep2 Q5.out ho (by decide) (by decide)); have s6 := str_by2 c6 hy; have t6 := str_by2 c5 (Y5.out.keep2 Q5.out ho (by decide)); clear hr ho hy))
        all_goals go_wp2_with (first
          | (go_at_call 18; refine (end_any g _ _ _ R6.out).mono ?_; rintro e w7 ⟨rfl, rfl⟩)
          | (go_at_call 19; refine (rend_any w3.heap.size _ _ _ Q6.out).mono ?_; rintro e w7 ⟨rfl, rfl⟩))
        all_goals go_roundw
        all_goals first
          | exact ⟨j + 1, takeX ys er N, takeE ys er N, by omega, by go_num, Nat.le_trans (takeX_le _ _ _) hyl, R6.out, Q6.out, ((KB.out.alloc KB.out.size _).drew.grown H5.out (Nat.le_trans KB.out.size (by simp)) (fun k hk => by injection hk with hk; omega)).grown H6.out (Nat.le_trans (Nat.le_trans KB.out.size (by simp)) H5.out.size) (fun k hk => by injection hk with hk; omega)⟩
          | (simp [intOf]; omega)
      · have R0 := Lib.hid (KR.out.fresh (.cells #[.int .u8 K, .int .i64 N, .int .i64 LO, .int .i64 HI] 32))
        have Q0 := Lib.hid (KQ.out.fresh (.cells #[.int .u8 K, .int .i64 N, .int .i64 LO, .int .i64 HI] 32))
        have z0 := Lib.hid (Three.new wr K N LO HI)
        have n1 : wr.heap.size ≠ g := by have := KR.out.lt; omega
        have n2 : wr.heap.size ≠ w3.heap.size := by have := KQ.out.lt; omega
        have hy40 : ys.length ≤ 1099511627776 := by omega
        go_wp2_with fail
        go_region_held3 (fun W => W.cell? ⟨wr.heap.size, 1, none⟩ = some (.int .i64 N) ∧ W.cell? ⟨wr.heap.size, 2, none⟩ = some (.int .i64 LO) ∧ W.cell? ⟨wr.heap.size, 3, none⟩ = some (.int .i64 HI))
          (first | exact z0.out | exact z5.out | exact z6.out)
          (first
          | (go_at_call 16; refine (count_any g ys er N _ R0.out).mono ?_; rintro e w5 ⟨rfl, hr, ho⟩; have R5 := Lib.hid hr; have H5 := Lib.hid ho; have Q5 := Lib.hid (Q0.out.keep2 R0.out ho (by decide) (by decide)); have z5 := Lib.hid (z0.out.keep ho n1); clear hr ho)
          | (go_at_call 17; refine (rcount_any w3.heap.size ys er N hy40 _ Q5.out).mono ?_; rintro e w6 ⟨rfl, hr, ho⟩; have Q6 := Lib.hid hr; have H6 := Lib.hid ho; have R6 := Lib.hid (R5.out.keep2 Q5.out ho (by decide) (by decide)); have z6 := Lib.hid (z5.out.keep ho n2); clear hr ho))
        all_goals go_wp2_with (first
          | (go_at_call 18; refine (end_any g _ _ _ R6.out).mono ?_; rintro e w7 ⟨rfl, rfl⟩)
          | (go_at_call 19; refine (rend_any w3.heap.size _ _ _ Q6.out).mono ?_; rintro e w7 ⟨rfl, rfl⟩))
        all_goals go_roundw
        all_goals first
          | exact ⟨j + 1, upX (numX ys er 2) (numE ys er 2) (numV ys er 2) N, upE (numE ys er 2) (numV ys er 2) N 4, by omega, by go_num, Nat.le_trans (Nat.le_trans (upX_le _ _ _ _) (numX_le _ _ _)) hyl, R6.out, Q6.out, ((KB.out.alloc KB.out.size _).drew.grown H5.out (Nat.le_trans KB.out.size (by simp)) (fun k hk => by injection hk with hk; omega)).grown H6.out (Nat.le_trans (Nat.le_trans KB.out.size (by simp)) H5.out.size) (fun k hk => by injection hk with hk; omega)⟩
          | (simp [intOf]; omega)
    · go_wp2_with fail
      go_ret
      exact ⟨rfl, KB.out⟩

end Go.Proofs.Ytjjfleiebebblaa
