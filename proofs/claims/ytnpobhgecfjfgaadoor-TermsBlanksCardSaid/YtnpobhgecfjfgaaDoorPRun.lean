/-
  The program's blanks, run, sign.
-/
import Derived.Test.YtnpobhgecfjfgaaDoorPFr
namespace Go.Proofs.YtnpobhgecfjfgaaDoor
open Go.RowKit

set_option maxHeartbeats 2000000 in
theorem blanks_any (g : Nat) (t : List UInt8) (w : World) (hb : Blk w g 39 [.string (ba t)]) :
    Calls Tryd.prog 14 #[.pointer (some ⟨g, 0, none⟩)] w fun e w' => e = .returned (.tuple #[]) ∧ Blk w' g 39 [.string (ba (bareP t))] ∧ w.grownBy w' (some g) := by
  have hc := frontB g t w hb
  rw [spanP_bk] at hc
  have HC := Lib.hid hc
  clear hc hb
  go_enter Tryd.func14, Tryd.ntmps14
  go_wp2_with (go_at_call 24; (with_reducible refine (HC.out).mono ?_); rintro e w1 ⟨rfl, h1, hg⟩; have H1 := Lib.hid h1; have HG := Lib.hid hg; clear h1 hg)
  first
    | (refine bodyPost_ret (results_none rfl _ _ _) rfl ?_)
    | (refine bodyPost_end (results_none rfl _ _ _) rfl ?_)
  exact ⟨rfl, H1.out, HG.out⟩

set_option maxHeartbeats 2000000 in
theorem runD (g : Nat) (t : List UInt8) (w : World) (hb : Blk w g 39 [.string (ba t)]) :
    Calls Tryd.prog 26 #[.pointer (some ⟨g, 0, none⟩), .func (.func 27) #[] #[]] w fun e w' => e = .returned (.string (ba (spanP isDg t))) ∧ Blk w' g 39 [.string (ba (bareP (t.drop (spanP isDg t).length)))] ∧ w.grownBy w' (some g) := by
  have hc := frontD g t w hb
  have HC := Lib.hid hc
  have HBl := Lib.hid (fun W h => blanks_any g (t.drop (spanP isDg t).length) W h)
  clear hc hb
  obtain ⟨s, hs⟩ : ∃ s, spanP isDg t = s := ⟨_, rfl⟩
  rw [hs] at HC HBl ⊢
  clear hs
  go_enter Tryd.func26, Tryd.ntmps26
  go_wp2_with (first
    | (go_at_call 24; (with_reducible refine (HC.out).mono ?_); rintro e w1 ⟨rfl, h1, hg⟩; have H1 := Lib.hid h1; have HG := Lib.hid hg; clear h1 hg)
    | (go_at_call 14; (with_reducible refine (HBl.out _ H1.out).mono ?_); rintro e w2 ⟨rfl, h1, hg⟩; have H2 := Lib.hid h1; have HG2 := Lib.hid (only_trans HG.out hg); clear h1 hg))
  go_ret
  exact ⟨rfl, H2.out, HG2.out⟩

set_option maxHeartbeats 2000000 in
theorem runL (g : Nat) (t : List UInt8) (w : World) (hb : Blk w g 39 [.string (ba t)]) :
    Calls Tryd.prog 26 #[.pointer (some ⟨g, 0, none⟩), .func (.func 28) #[] #[]] w fun e w' => e = .returned (.string (ba (spanP isLt t))) ∧ Blk w' g 39 [.string (ba (bareP (t.drop (spanP isLt t).length)))] ∧ w.grownBy w' (some g) := by
  have hc := frontL g t w hb
  have HC := Lib.hid hc
  have HBl := Lib.hid (fun W h => blanks_any g (t.drop (spanP isLt t).length) W h)
  clear hc hb
  obtain ⟨s, hs⟩ : ∃ s, spanP isLt t = s := ⟨_, rfl⟩
  rw [hs] at HC HBl ⊢
  clear hs
  go_enter Tryd.func26, Tryd.ntmps26
  go_wp2_with (first
    | (go_at_call 24; (with_reducible refine (HC.out).mono ?_); rintro e w1 ⟨rfl, h1, hg⟩; have H1 := Lib.hid h1; have HG := Lib.hid hg; clear h1 hg)
    | (go_at_call 14; (with_reducible refine (HBl.out _ H1.out).mono ?_); rintro e w2 ⟨rfl, h1, hg⟩; have H2 := Lib.hid h1; have HG2 := Lib.hid (only_trans HG.out hg); clear h1 hg))
  go_ret
  exact ⟨rfl, H2.out, HG2.out⟩

/-- what is left behind a sign -/
def signR (x : UInt8) (t : List UInt8) : List UInt8 := bareP (if begP [x] t = true then t.drop 1 else t)
theorem hasPrefix_one (x : UInt8) (t : List UInt8) : Lib.hasPrefix t [x] = begP [x] t := by
  cases t with
  | nil => rfl
  | cons y t =>
    rw [begP_cons, begP_nil]
    show (x == y && ([] : List UInt8).isPrefixOf t) = _
    simp only [List.isPrefixOf_nil_left, Bool.and_true]
    rfl
theorem trimPrefix_one (x : UInt8) (t : List UInt8) : Lib.trimPrefix t [x] = if begP [x] t = true then t.drop 1 else t := by
  unfold Lib.trimPrefix
  rw [hasPrefix_one]
  rfl

set_option maxHeartbeats 4000000 in
set_option maxRecDepth 100000 in
theorem sign_any (x : UInt8) (g : Nat) (t : List UInt8) (w : World) (hb : Blk w g 39 [.string (ba t)]) :
    Calls Tryd.prog 42 #[.pointer (some ⟨g, 0, none⟩), .string ⟨#[x]⟩] w fun e w' => e = .returned (.bool (begP [x] t)) ∧ Blk w' g 39 [.string (ba (signR x t))] ∧ w.grownBy w' (some g) := by
  have hcp : ∀ W : World, Calls Tryd.prog 51 #[.string (ba t), .string ⟨#[x]⟩] W fun e w' => e = .returned (.tuple #[.string (ba (Lib.trimPrefix t [x])), .bool (Lib.hasPrefix t [x])]) ∧ w' = W := fun W => Tryd.strings_CutPrefix (ba t) ⟨#[x]⟩ W
  rw [trimPrefix_one, hasPrefix_one] at hcp
  obtain ⟨v, hv⟩ : ∃ v, (if begP [x] t = true then t.drop 1 else t) = v := ⟨_, rfl⟩
  have hr : signR x t = bareP v := by unfold signR; rw [hv]
  obtain ⟨y, hy⟩ : ∃ y, begP [x] t = y := ⟨_, rfl⟩
  rw [hv, hy] at hcp
  rw [hr, hy]
  have HC := Lib.hid hcp
  have HBl := Lib.hid (fun W h => blanks_any g v W h)
  have c0 := hb.cellAt (i := 0) rfl
  have HB := Lib.hid hb
  clear hcp hv hr hy hb
  go_enter Tryd.func42, Tryd.ntmps42
  go_wp2_with (first
    | (go_at_call 51; (with_reducible refine (HC.out _).mono ?_); rintro e w1 ⟨rfl, rfl⟩)
    | (refine wpList_store_cell rfl 9 (.tmp 19) (.tmp 17) rfl g 0 (by simp [Act.eval]) (.string (ba v)) (by simp [Act.eval]) rfl rfl Tryd.size_str 39 [.string (ba t)] HB.out (by simp) ?_; intro ws hbs hgs; have HBs : Hid (Blk ws g 39 [.string (ba v)]) := Lib.hid hbs; have HGs := Lib.hid hgs; clear hbs hgs)
    | (go_at_call 14; (with_reducible refine (HBl.out _ HBs.out).mono ?_); rintro e w2 ⟨rfl, h1, hg⟩; have H2 := Lib.hid h1; have HG2 := Lib.hid (only_trans HGs.out hg); clear h1 hg))
  go_ret
  exact ⟨rfl, H2.out, HG2.out⟩

end Go.Proofs.YtnpobhgecfjfgaaDoor
