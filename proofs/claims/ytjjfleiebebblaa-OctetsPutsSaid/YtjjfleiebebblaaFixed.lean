/-
  fixed: the calls whose answers the document fixes answer so.
-/
import Derived.Test.YtjjfleiebebblaaNil
import Derived.Test.YtjjfleiebebblaaRow
import Derived.Lib.SlBytesConst
namespace Go.Proofs.Ytjjfleiebebblaa
open Go.RowKit

theorem By.lit {w : World} {Q : Nat → Prop} {xs : List UInt8} {n : Nat} (cs : Array Value) (t : TypeId) (fr : Nat × Nat) (hQ : Q w.heap.size) (hn : xs.length = n) (h : cs.toList = vs xs) : By (w.alloc (.cells cs t fr)) Q (some ⟨w.heap.size, 0, none⟩) n xs := by
  refine ⟨hn, fun _ => ⟨_, _, rfl, hQ, fun j u hu => ?_⟩⟩
  rw [cell_of_row _ w.heap.size _ _ _ _ (heap_alloc_new w _), ← Array.getElem?_toList, h, vs_get, Nat.zero_add, hu]
  rfl

theorem fx_number (g : Nat) (w : World) (h : RS w g tR [1, 2, 0, 0, 0, 1, 97, 255] 0) : Calls Try.prog 8 #[.pointer (some ⟨g, 0, none⟩), .int .i64 2] w (GaveV w g tR (.int .u64 258) [0, 0, 0, 1, 97, 255] 0) := by
  have := number_any g _ 0 2 w h
  have e1 : numV [1, 2, 0, 0, 0, 1, 97, 255] 0 2 = 258 := by decide
  have e2 : numX [1, 2, 0, 0, 0, 1, 97, 255] 0 2 = [0, 0, 0, 1, 97, 255] := by decide
  have e3 : numE [1, 2, 0, 0, 0, 1, 97, 255] 0 2 = 0 := by decide
  rw [e1, e2, e3] at this
  exact this
theorem fx_row (g : Nat) (w : World) (h : RS w g tR [0, 0, 0, 1, 97, 255] 0) : Calls Try.prog 12 #[.pointer (some ⟨g, 0, none⟩), .int .i64 9] w (Gave w g tR [97] [255] 0) := by
  have := rowm_any g _ 0 9 (by simp) w h
  have e1 : rowY [0, 0, 0, 1, 97, 255] 0 9 = [97] := by decide
  have e2 : rowX [0, 0, 0, 1, 97, 255] 0 9 = [255] := by decide
  have e3 : rowE [0, 0, 0, 1, 97, 255] 0 9 = 0 := by decide
  rw [e1, e2, e3] at this
  exact this
theorem fx_range (g : Nat) (w : World) (h : RS w g tR [255] 0) : Calls Try.prog 10 #[.pointer (some ⟨g, 0, none⟩), .int .i64 1, .int .i64 (-5), .int .i64 5] w (GaveV w g tR (.int .i64 (-1)) [] 0) := by
  have := range_any g _ 0 1 (-5) 5 w h
  have e1 : rngV [255] 0 1 (-5) 5 = -1 := by decide
  have e2 : rngX [255] 0 1 (-5) 5 = [] := by decide
  have e3 : rngE [255] 0 1 (-5) 5 = 0 := by decide
  rw [e1, e2, e3] at this
  exact this
theorem fx_end (g : Nat) (w : World) (h : RS w g tR [] 0) : Calls Try.prog 18 #[.pointer (some ⟨g, 0, none⟩)] w fun e w' => e = .returned (.int .i64 0) ∧ w = w' := end_any g [] 0 w h
theorem fx_put (w : World) : Calls Try.prog 20 #[.slice none 0 0, .int .u64 258, .int .i64 2] w (Made w 2 [1, 2]) :=
  put_any (fun _ => True) none 0 0 [] 258 2 (by decide) (by decide) w By.none_ (by decide) (Nat.le_refl _)
theorem fx_rowp (w : World) (B : Option Addr) (c : Nat) (h : By w (fun _ => True) B 1 [97]) : Calls Try.prog 21 #[.slice none 0 0, .slice B 1 c] w (Made w 5 [0, 0, 0, 1, 97]) :=
  row_any (fun _ => True) none 0 0 [] (fun _ => True) B 1 c [97] w By.none_ h (by decide) (by decide) (Nat.le_refl _)

set_option maxHeartbeats 2000000 in
theorem fixed_ok (w : World) : Calls Try.prog 6 #[] w fun e w' => e = .returned (.bool true) ∧ Below w.heap.size w w' := by
  have kc := fun (w : World) (C : Array Value) (n c : Nat) => Lib.run_convert_bytes_const (P := Try.prog) w 22 5 C n c Try.underlying22 Try.underlying5
  go_enter Try.func6, Try.ntmps6
  go_wp2_with (first
    | (go_at_call 7; refine (read_any (fun _ => True) _ 8 8 [1, 2, 0, 0, 0, 1, 97, 255] _ (By.lit #[.int .u8 1, .int .u8 2, .int .u8 0, .int .u8 0, .int .u8 0, .int .u8 1, .int .u8 97, .int .u8 255] _ _ trivial rfl rfl) (by decide)).mono ?_; rintro e w1 ⟨g, rfl, hr, hb1, hg⟩; have HR1 := Lib.hid hr; clear hr)
    | (go_at_call 8; refine (fx_number g _ HR1.out).mono ?_; rintro e w2 ⟨rfl, hr, ho⟩; have HR2 := Lib.hid hr; have HO2 := Lib.hid ho; clear hr ho)
    | (go_at_call 12; refine (fx_row g _ HR2.out).mono ?_; rintro e w3 ⟨B3, n3, c3, rfl, _, hy, hr, ho⟩; have HY3 := Lib.hid hy; have HR3 := Lib.hid hr; have HO3 := Lib.hid ho; clear hr ho hy)
    | (go_at_call 20; refine (fx_put _).mono ?_; rintro e w4 ⟨v4, rfl, hown, hb⟩; obtain ⟨A4, c4, rfl, hc4, _⟩ := own_form hown; have HW4 := Lib.hid hown; have HB4 := Lib.hid hb; clear hown hb; have hs4 := run_string_by (P := Try.prog) w4 22 9 5 Try.underlying22 Try.underlying5 Try.underlying9 _ A4 2 c4 [1, 2] (By.of_own HW4.out))
    | (go_at_call 21; refine (fx_rowp _ _ _ (By.lit #[.int .u8 97] _ _ trivial rfl rfl)).mono ?_; rintro e w5 ⟨v5, rfl, hown, hb⟩; obtain ⟨A5, c5, rfl, hc5, _⟩ := own_form hown; have HW5 := Lib.hid hown; have HB5 := Lib.hid hb; clear hown hb; have hs5 := run_string_by (P := Try.prog) w5 22 9 5 Try.underlying22 Try.underlying5 Try.underlying9 _ A5 5 c5 [0, 0, 0, 1, 97] (By.of_own HW5.out); have hs3 := run_string_by (P := Try.prog) w5 22 9 5 Try.underlying22 Try.underlying5 Try.underlying9 _ B3 n3 c3 [97] (((HY3.out.through HB4.out).alloc _).through HB5.out); have HR5 := Lib.hid (((HR3.out.below HB4.out).below ((Below.refl _ _).alloc (Nat.le_refl _) _)).below HB5.out))
    | (go_at_call 10; refine (fx_range g _ HR5.out).mono ?_; rintro e w6 ⟨rfl, hr, ho⟩; have HR6 := Lib.hid hr; have HO6 := Lib.hid ho; clear hr ho)
    | (go_at_call 18; refine (fx_end g _ HR6.out).mono ?_; rintro e w7 ⟨rfl, rfl⟩))
  go_ret
  refine ⟨rfl, ?_⟩
  have b1 : Below w.heap.size w w1 := ((Below.refl _ w).alloc (Nat.le_refl _) _).trans (hb1.mono (by simp))
  have hg1 : w.heap.size ≤ g := by simp at hg; omega
  have hs : ∀ k, some g = some k → w.heap.size ≤ k := fun k hk => by injection hk with hk; omega
  have b2 : Below w.heap.size w w2 := b1.grown HO2.out b1.size hs
  have b3 : Below w.heap.size w w3 := b2.grown HO3.out b2.size hs
  have b4 : Below w.heap.size w w4 := b3.trans (HB4.out.mono b3.size)
  have b5 : Below w.heap.size w w5 := (b4.alloc b4.size _).trans (HB5.out.mono (by have := b4.size; simp; omega))
  exact b5.grown HO6.out b5.size hs

end Go.Proofs.Ytjjfleiebebblaa
