/-
  OctetsBack: the walk of the law.
-/
import Derived.Test.YtjjfleiebebblaaFixed
import Derived.Test.YtjjfleiebebblaaBackP
import Derived.Deep.RegionWith
namespace Go.Proofs.Ytjjfleiebebblaa
open Go.RowKit

theorem str_by' {w : World} {Q : Nat → Prop} {A : Option Addr} {n : Nat} {xs : List UInt8} (c : Nat) (h : By w Q A n xs) : (convert 22 9 (.slice A n c)).run Try.prog w = .ok (.string ⟨xs.toArray⟩) w :=
  run_string_by (P := Try.prog) w 22 9 5 Try.underlying22 Try.underlying5 Try.underlying9 Q A n c xs h

set_option maxHeartbeats 4000000 in
theorem back_1 (v : Int) (_h0 : -9223372036854775808 ≤ v) (_h1 : v ≤ 9223372036854775807) (Q : Nat → Prop) (A : Option Addr) (m c : Nat) (ys : List UInt8) (bits : Int) (hb0 : 0 ≤ bits) (hb : bits % 4 = 0) (w : World)
    (h : By w Q A m ys) (hm : m ≤ 500) :
    Calls Try.prog 5 #[.int .i64 v, .slice A m c, .int .u8 bits] w fun e w' => e = .returned (.bool true) ∧ Below w.heap.size w w' := by
  have H := Lib.hid h
  have HB := Lib.hid hb
  have hl := h.len
  have hg1 : decide (500 < (m : Int)) = false := by simp; omega
  have cPut : ∀ W : World, Calls Try.prog 20 #[.slice none 0 0, .int .u64 (v % 18446744073709551616), .int .i64 1] W (Made W 1 (beB (v % 18446744073709551616).toNat 1)) := fun W => by
    have := put_1 (fun _ => True) none 0 0 [] (v % 18446744073709551616) (by omega) (by omega) W By.none_ (by decide) (Nat.le_refl _)
    simpa using this
  have cRow : ∀ (Q' : Nat → Prop) (A' : Option Addr) (c' : Nat) (W : World), 1 ≤ c' → By W Q' A' 1 (beB (v % 18446744073709551616).toNat 1) → By W Q A m ys → Calls Try.prog 21 #[.slice A' 1 c', .slice A m c] W (Made W (1 + 4 + m) (beB (v % 18446744073709551616).toNat 1 ++ (beB m 4 ++ ys))) := fun Q' A' c' W hc hy hy2 => by
    have := row_any Q' A' 1 c' _ Q A m c ys W hy hy2 (by decide) (by omega) hc
    rw [List.append_assoc] at this
    exact this
  have cRange : ∀ (g : Nat) (W : World), RS W g tR (beB (v % 18446744073709551616).toNat 1 ++ (beB m 4 ++ ys)) 0 → Calls Try.prog 10 #[.pointer (some ⟨g, 0, none⟩), .int .i64 1, .int .i64 (wrap64 (v * 72057594037927936) / 72057594037927936), .int .i64 (wrap64 (v * 72057594037927936) / 72057594037927936)] W (GaveV W g tR (.int .i64 (wrap64 (v * 72057594037927936) / 72057594037927936)) (beB m 4 ++ ys) 0) := fun g W hr => by
    have := range_any g _ 0 1 (wrap64 (v * 72057594037927936) / 72057594037927936) (wrap64 (v * 72057594037927936) / 72057594037927936) W hr
    obtain ⟨e1, e2, e3⟩ := range_front (v % 18446744073709551616).toNat 1 (wrap64 (v * 72057594037927936) / 72057594037927936) (beB m 4 ++ ys) rfl (sx1_low v)
    simp only [Int.cast_ofNat_Int] at e1 e2 e3
    rw [e1, e2, e3] at this
    exact this
  have cRowR : ∀ (g : Nat) (W : World), RS W g tR (beB m 4 ++ ys) 0 → Calls Try.prog 12 #[.pointer (some ⟨g, 0, none⟩), .int .i64 m] W (Gave W g tR ys [] 0) := fun g W hr => by
    have := rowm_any g _ 0 (m : Int) (by simp [beB_length]; omega) W hr
    obtain ⟨e1, e2, e3⟩ := row_front ys m hl hm
    rw [e1, e2, e3] at this
    exact this
  have CPut := Lib.hid cPut
  have CRow := Lib.hid cRow
  have CRange := Lib.hid cRange
  have CRowR := Lib.hid cRowR
  clear h hl cPut cRow cRange cRowR hb
  generalize beB (v % 18446744073709551616).toNat 1 = Z at *
  generalize Z ++ (beB m 4 ++ ys) = Z2 at *
  generalize beB m 4 ++ ys = Z4 at *
  go_enter Try.func5, Try.ntmps5
  go_wp2_with (first
    | (go_at_call 6; refine (fixed_ok _).mono ?_; rintro e w1 ⟨rfl, hb1⟩; have hbb := HB.out)
    | (go_at_call 20; refine (CPut.out _).mono ?_; rintro e w2 ⟨v2, rfl, hown, hb⟩; obtain ⟨A2, c2, rfl, hc2, _⟩ := own_form hown; have O2 := Lib.hid hown; have G2 := Lib.hid hb; clear hown hb)
    | (go_at_call 21; refine (CRow.out _ A2 c2 _ hc2 (By.of_own O2.out) ((H.out.through hb1).through G2.out)).mono ?_; rintro e w3 ⟨v3, rfl, hown, hb⟩; obtain ⟨A3, c3, rfl, hc3, _⟩ := own_form hown; have O3 := Lib.hid hown; have G3 := Lib.hid hb; clear hown hb)
    | (go_at_call 7; refine (read_any _ A3 (1 + 4 + m) c3 Z2 _ (By.of_own O3.out) (by omega)).mono ?_; rintro e w4 ⟨g, rfl, hr, hb4, hg⟩; have HR4 := Lib.hid hr; have HG := Lib.hid hg; have G4 := Lib.hid hb4; clear hr hg hb4)
    | (go_at_call 10; refine (CRange.out g _ HR4.out).mono ?_; rintro e w5 ⟨rfl, hr, ho⟩; have HR5 := Lib.hid hr; have HO5 := Lib.hid ho; clear hr ho)
    | (go_at_call_of 12 g; refine (CRowR.out g _ HR5.out).mono ?_; rintro e w6 ⟨B6, n6, c6, rfl, _, hy, hr, ho⟩; have HY6 := Lib.hid hy; have HR6 := Lib.hid hr; have HO6 := Lib.hid ho; clear hy hr ho; have T36 : Below w3.heap.size w3 w6 := (G4.out.grown HO5.out G4.out.size (fun k hk => by injection hk with hk; have := HG.out; omega)).grown HO6.out (Nat.le_trans G4.out.size HO5.out.size) (fun k hk => by injection hk with hk; have := HG.out; omega); have s6 := str_by' c6 HY6.out; have t6 := str_by' c (((H.out.through hb1).through G2.out).through G3.out |>.through T36))
    | (go_at_call_of 18 g; refine (end_any g [] 0 _ HR6.out).mono ?_; rintro e w7 ⟨rfl, rfl⟩)
    | (go_at_call 8; refine (number_nil 1 rfl _).mono ?_; rintro e w8 ⟨rfl, rfl⟩)
    | (go_at_call 12; refine (row_nil 5 (by decide) _).mono ?_; rintro e w8 ⟨rfl, rfl⟩)
    | (go_at_call 16; refine (count_nil 5 (by decide) _).mono ?_; rintro e w8 ⟨rfl, rfl⟩)
    | (go_at_call 18; refine (end_nil _).mono ?_; rintro e w8 ⟨rfl, rfl⟩))
  go_ret
  exact ⟨rfl, (((hb1.trans (G2.out.mono hb1.size)).trans (G3.out.mono (Nat.le_trans hb1.size G2.out.size))).trans (T36.mono (Nat.le_trans (Nat.le_trans hb1.size G2.out.size) G3.out.size)))⟩

set_option maxHeartbeats 4000000 in
theorem back_2 (v : Int) (_h0 : -9223372036854775808 ≤ v) (_h1 : v ≤ 9223372036854775807) (Q : Nat → Prop) (A : Option Addr) (m c : Nat) (ys : List UInt8) (bits : Int) (hb0 : 0 ≤ bits) (hb : bits % 4 = 1) (w : World)
    (h : By w Q A m ys) (hm : m ≤ 500) :
    Calls Try.prog 5 #[.int .i64 v, .slice A m c, .int .u8 bits] w fun e w' => e = .returned (.bool true) ∧ Below w.heap.size w w' := by
  have H := Lib.hid h
  have HB := Lib.hid hb
  have hl := h.len
  have hg1 : decide (500 < (m : Int)) = false := by simp; omega
  have cPut : ∀ W : World, Calls Try.prog 20 #[.slice none 0 0, .int .u64 (v % 18446744073709551616), .int .i64 2] W (Made W 2 (beB (v % 18446744073709551616).toNat 2)) := fun W => by
    have := put_2 (fun _ => True) none 0 0 [] (v % 18446744073709551616) (by omega) (by omega) W By.none_ (by decide) (Nat.le_refl _)
    simpa using this
  have cRow : ∀ (Q' : Nat → Prop) (A' : Option Addr) (c' : Nat) (W : World), 2 ≤ c' → By W Q' A' 2 (beB (v % 18446744073709551616).toNat 2) → By W Q A m ys → Calls Try.prog 21 #[.slice A' 2 c', .slice A m c] W (Made W (2 + 4 + m) (beB (v % 18446744073709551616).toNat 2 ++ (beB m 4 ++ ys))) := fun Q' A' c' W hc hy hy2 => by
    have := row_any Q' A' 2 c' _ Q A m c ys W hy hy2 (by decide) (by omega) hc
    rw [List.append_assoc] at this
    exact this
  have cRange : ∀ (g : Nat) (W : World), RS W g tR (beB (v % 18446744073709551616).toNat 2 ++ (beB m 4 ++ ys)) 0 → Calls Try.prog 10 #[.pointer (some ⟨g, 0, none⟩), .int .i64 2, .int .i64 (wrap64 (v * 281474976710656) / 281474976710656), .int .i64 (wrap64 (v * 281474976710656) / 281474976710656)] W (GaveV W g tR (.int .i64 (wrap64 (v * 281474976710656) / 281474976710656)) (beB m 4 ++ ys) 0) := fun g W hr => by
    have := range_any g _ 0 2 (wrap64 (v * 281474976710656) / 281474976710656) (wrap64 (v * 281474976710656) / 281474976710656) W hr
    obtain ⟨e1, e2, e3⟩ := range_front (v % 18446744073709551616).toNat 2 (wrap64 (v * 281474976710656) / 281474976710656) (beB m 4 ++ ys) rfl (sx2_low v)
    simp only [Int.cast_ofNat_Int] at e1 e2 e3
    rw [e1, e2, e3] at this
    exact this
  have cRowR : ∀ (g : Nat) (W : World), RS W g tR (beB m 4 ++ ys) 0 → Calls Try.prog 12 #[.pointer (some ⟨g, 0, none⟩), .int .i64 m] W (Gave W g tR ys [] 0) := fun g W hr => by
    have := rowm_any g _ 0 (m : Int) (by simp [beB_length]; omega) W hr
    obtain ⟨e1, e2, e3⟩ := row_front ys m hl hm
    rw [e1, e2, e3] at this
    exact this
  have CPut := Lib.hid cPut
  have CRow := Lib.hid cRow
  have CRange := Lib.hid cRange
  have CRowR := Lib.hid cRowR
  clear h hl cPut cRow cRange cRowR hb
  generalize beB (v % 18446744073709551616).toNat 2 = Z at *
  generalize Z ++ (beB m 4 ++ ys) = Z2 at *
  generalize beB m 4 ++ ys = Z4 at *
  go_enter Try.func5, Try.ntmps5
  go_wp2_with (first
    | (go_at_call 6; refine (fixed_ok _).mono ?_; rintro e w1 ⟨rfl, hb1⟩; have hbb := HB.out)
    | (go_at_call 20; refine (CPut.out _).mono ?_; rintro e w2 ⟨v2, rfl, hown, hb⟩; obtain ⟨A2, c2, rfl, hc2, _⟩ := own_form hown; have O2 := Lib.hid hown; have G2 := Lib.hid hb; clear hown hb)
    | (go_at_call 21; refine (CRow.out _ A2 c2 _ hc2 (By.of_own O2.out) ((H.out.through hb1).through G2.out)).mono ?_; rintro e w3 ⟨v3, rfl, hown, hb⟩; obtain ⟨A3, c3, rfl, hc3, _⟩ := own_form hown; have O3 := Lib.hid hown; have G3 := Lib.hid hb; clear hown hb)
    | (go_at_call 7; refine (read_any _ A3 (2 + 4 + m) c3 Z2 _ (By.of_own O3.out) (by omega)).mono ?_; rintro e w4 ⟨g, rfl, hr, hb4, hg⟩; have HR4 := Lib.hid hr; have HG := Lib.hid hg; have G4 := Lib.hid hb4; clear hr hg hb4)
    | (go_at_call 10; refine (CRange.out g _ HR4.out).mono ?_; rintro e w5 ⟨rfl, hr, ho⟩; have HR5 := Lib.hid hr; have HO5 := Lib.hid ho; clear hr ho)
    | (go_at_call_of 12 g; refine (CRowR.out g _ HR5.out).mono ?_; rintro e w6 ⟨B6, n6, c6, rfl, _, hy, hr, ho⟩; have HY6 := Lib.hid hy; have HR6 := Lib.hid hr; have HO6 := Lib.hid ho; clear hy hr ho; have T36 : Below w3.heap.size w3 w6 := (G4.out.grown HO5.out G4.out.size (fun k hk => by injection hk with hk; have := HG.out; omega)).grown HO6.out (Nat.le_trans G4.out.size HO5.out.size) (fun k hk => by injection hk with hk; have := HG.out; omega); have s6 := str_by' c6 HY6.out; have t6 := str_by' c (((H.out.through hb1).through G2.out).through G3.out |>.through T36))
    | (go_at_call_of 18 g; refine (end_any g [] 0 _ HR6.out).mono ?_; rintro e w7 ⟨rfl, rfl⟩)
    | (go_at_call 8; refine (number_nil 1 rfl _).mono ?_; rintro e w8 ⟨rfl, rfl⟩)
    | (go_at_call 12; refine (row_nil 5 (by decide) _).mono ?_; rintro e w8 ⟨rfl, rfl⟩)
    | (go_at_call 16; refine (count_nil 5 (by decide) _).mono ?_; rintro e w8 ⟨rfl, rfl⟩)
    | (go_at_call 18; refine (end_nil _).mono ?_; rintro e w8 ⟨rfl, rfl⟩))
  go_ret
  exact ⟨rfl, (((hb1.trans (G2.out.mono hb1.size)).trans (G3.out.mono (Nat.le_trans hb1.size G2.out.size))).trans (T36.mono (Nat.le_trans (Nat.le_trans hb1.size G2.out.size) G3.out.size)))⟩

set_option maxHeartbeats 4000000 in
theorem back_4 (v : Int) (_h0 : -9223372036854775808 ≤ v) (_h1 : v ≤ 9223372036854775807) (Q : Nat → Prop) (A : Option Addr) (m c : Nat) (ys : List UInt8) (bits : Int) (hb0 : 0 ≤ bits) (hb : bits % 4 = 2) (w : World)
    (h : By w Q A m ys) (hm : m ≤ 500) :
    Calls Try.prog 5 #[.int .i64 v, .slice A m c, .int .u8 bits] w fun e w' => e = .returned (.bool true) ∧ Below w.heap.size w w' := by
  have H := Lib.hid h
  have HB := Lib.hid hb
  have hl := h.len
  have hg1 : decide (500 < (m : Int)) = false := by simp; omega
  have cPut : ∀ W : World, Calls Try.prog 20 #[.slice none 0 0, .int .u64 (v % 18446744073709551616), .int .i64 4] W (Made W 4 (beB (v % 18446744073709551616).toNat 4)) := fun W => by
    have := put_4 (fun _ => True) none 0 0 [] (v % 18446744073709551616) (by omega) (by omega) W By.none_ (by decide) (Nat.le_refl _)
    simpa using this
  have cRow : ∀ (Q' : Nat → Prop) (A' : Option Addr) (c' : Nat) (W : World), 4 ≤ c' → By W Q' A' 4 (beB (v % 18446744073709551616).toNat 4) → By W Q A m ys → Calls Try.prog 21 #[.slice A' 4 c', .slice A m c] W (Made W (4 + 4 + m) (beB (v % 18446744073709551616).toNat 4 ++ (beB m 4 ++ ys))) := fun Q' A' c' W hc hy hy2 => by
    have := row_any Q' A' 4 c' _ Q A m c ys W hy hy2 (by decide) (by omega) hc
    rw [List.append_assoc] at this
    exact this
  have cRange : ∀ (g : Nat) (W : World), RS W g tR (beB (v % 18446744073709551616).toNat 4 ++ (beB m 4 ++ ys)) 0 → Calls Try.prog 10 #[.pointer (some ⟨g, 0, none⟩), .int .i64 4, .int .i64 (wrap64 (v * 4294967296) / 4294967296), .int .i64 (wrap64 (v * 4294967296) / 4294967296)] W (GaveV W g tR (.int .i64 (wrap64 (v * 4294967296) / 4294967296)) (beB m 4 ++ ys) 0) := fun g W hr => by
    have := range_any g _ 0 4 (wrap64 (v * 4294967296) / 4294967296) (wrap64 (v * 4294967296) / 4294967296) W hr
    obtain ⟨e1, e2, e3⟩ := range_front (v % 18446744073709551616).toNat 4 (wrap64 (v * 4294967296) / 4294967296) (beB m 4 ++ ys) rfl (sx4_low v)
    simp only [Int.cast_ofNat_Int] at e1 e2 e3
    rw [e1, e2, e3] at this
    exact this
  have cRowR : ∀ (g : Nat) (W : World), RS W g tR (beB m 4 ++ ys) 0 → Calls Try.prog 12 #[.pointer (some ⟨g, 0, none⟩), .int .i64 m] W (Gave W g tR ys [] 0) := fun g W hr => by
    have := rowm_any g _ 0 (m : Int) (by simp [beB_length]; omega) W hr
    obtain ⟨e1, e2, e3⟩ := row_front ys m hl hm
    rw [e1, e2, e3] at this
    exact this
  have CPut := Lib.hid cPut
  have CRow := Lib.hid cRow
  have CRange := Lib.hid cRange
  have CRowR := Lib.hid cRowR
  clear h hl cPut cRow cRange cRowR hb
  generalize beB (v % 18446744073709551616).toNat 4 = Z at *
  generalize Z ++ (beB m 4 ++ ys) = Z2 at *
  generalize beB m 4 ++ ys = Z4 at *
  go_enter Try.func5, Try.ntmps5
  go_wp2_with (first
    | (go_at_call 6; refine (fixed_ok _).mono ?_; rintro e w1 ⟨rfl, hb1⟩; have hbb := HB.out)
    | (go_at_call 20; refine (CPut.out _).mono ?_; rintro e w2 ⟨v2, rfl, hown, hb⟩; obtain ⟨A2, c2, rfl, hc2, _⟩ := own_form hown; have O2 := Lib.hid hown; have G2 := Lib.hid hb; clear hown hb)
    | (go_at_call 21; refine (CRow.out _ A2 c2 _ hc2 (By.of_own O2.out) ((H.out.through hb1).through G2.out)).mono ?_; rintro e w3 ⟨v3, rfl, hown, hb⟩; obtain ⟨A3, c3, rfl, hc3, _⟩ := own_form hown; have O3 := Lib.hid hown; have G3 := Lib.hid hb; clear hown hb)
    | (go_at_call 7; refine (read_any _ A3 (4 + 4 + m) c3 Z2 _ (By.of_own O3.out) (by omega)).mono ?_; rintro e w4 ⟨g, rfl, hr, hb4, hg⟩; have HR4 := Lib.hid hr; have HG := Lib.hid hg; have G4 := Lib.hid hb4; clear hr hg hb4)
    | (go_at_call 10; refine (CRange.out g _ HR4.out).mono ?_; rintro e w5 ⟨rfl, hr, ho⟩; have HR5 := Lib.hid hr; have HO5 := Lib.hid ho; clear hr ho)
    | (go_at_call_of 12 g; refine (CRowR.out g _ HR5.out).mono ?_; rintro e w6 ⟨B6, n6, c6, rfl, _, hy, hr, ho⟩; have HY6 := Lib.hid hy; have HR6 := Lib.hid hr; have HO6 := Lib.hid ho; clear hy hr ho; have T36 : Below w3.heap.size w3 w6 := (G4.out.grown HO5.out G4.out.size (fun k hk => by injection hk with hk; have := HG.out; omega)).grown HO6.out (Nat.le_trans G4.out.size HO5.out.size) (fun k hk => by injection hk with hk; have := HG.out; omega); have s6 := str_by' c6 HY6.out; have t6 := str_by' c (((H.out.through hb1).through G2.out).through G3.out |>.through T36))
    | (go_at_call_of 18 g; refine (end_any g [] 0 _ HR6.out).mono ?_; rintro e w7 ⟨rfl, rfl⟩)
    | (go_at_call 8; refine (number_nil 1 rfl _).mono ?_; rintro e w8 ⟨rfl, rfl⟩)
    | (go_at_call 12; refine (row_nil 5 (by decide) _).mono ?_; rintro e w8 ⟨rfl, rfl⟩)
    | (go_at_call 16; refine (count_nil 5 (by decide) _).mono ?_; rintro e w8 ⟨rfl, rfl⟩)
    | (go_at_call 18; refine (end_nil _).mono ?_; rintro e w8 ⟨rfl, rfl⟩))
  go_ret
  exact ⟨rfl, (((hb1.trans (G2.out.mono hb1.size)).trans (G3.out.mono (Nat.le_trans hb1.size G2.out.size))).trans (T36.mono (Nat.le_trans (Nat.le_trans hb1.size G2.out.size) G3.out.size)))⟩

set_option maxHeartbeats 4000000 in
theorem back_8 (v : Int) (h0 : -9223372036854775808 ≤ v) (h1 : v ≤ 9223372036854775807) (Q : Nat → Prop) (A : Option Addr) (m c : Nat) (ys : List UInt8) (bits : Int) (hb0 : 0 ≤ bits) (hb : bits % 4 = 3) (w : World)
    (h : By w Q A m ys) (hm : m ≤ 500) :
    Calls Try.prog 5 #[.int .i64 v, .slice A m c, .int .u8 bits] w fun e w' => e = .returned (.bool true) ∧ Below w.heap.size w w' := by
  have H := Lib.hid h
  have HB := Lib.hid hb
  have hl := h.len
  have hg1 : decide (500 < (m : Int)) = false := by simp; omega
  have cPut : ∀ W : World, Calls Try.prog 20 #[.slice none 0 0, .int .u64 (v % 18446744073709551616), .int .i64 8] W (Made W 8 (beB (v % 18446744073709551616).toNat 8)) := fun W => by
    have := put_8 (fun _ => True) none 0 0 [] (v % 18446744073709551616) (by omega) (by omega) W By.none_ (by decide) (Nat.le_refl _)
    simpa using this
  have cRow : ∀ (Q' : Nat → Prop) (A' : Option Addr) (c' : Nat) (W : World), 8 ≤ c' → By W Q' A' 8 (beB (v % 18446744073709551616).toNat 8) → By W Q A m ys → Calls Try.prog 21 #[.slice A' 8 c', .slice A m c] W (Made W (8 + 4 + m) (beB (v % 18446744073709551616).toNat 8 ++ (beB m 4 ++ ys))) := fun Q' A' c' W hc hy hy2 => by
    have := row_any Q' A' 8 c' _ Q A m c ys W hy hy2 (by decide) (by omega) hc
    rw [List.append_assoc] at this
    exact this
  have cRange : ∀ (g : Nat) (W : World), RS W g tR (beB (v % 18446744073709551616).toNat 8 ++ (beB m 4 ++ ys)) 0 → Calls Try.prog 10 #[.pointer (some ⟨g, 0, none⟩), .int .i64 8, .int .i64 (v), .int .i64 (v)] W (GaveV W g tR (.int .i64 (v)) (beB m 4 ++ ys) 0) := fun g W hr => by
    have := range_any g _ 0 8 (v) (v) W hr
    obtain ⟨e1, e2, e3⟩ := range_front (v % 18446744073709551616).toNat 8 (v) (beB m 4 ++ ys) rfl (sx8_low v h0 h1)
    simp only [Int.cast_ofNat_Int] at e1 e2 e3
    rw [e1, e2, e3] at this
    exact this
  have cRowR : ∀ (g : Nat) (W : World), RS W g tR (beB m 4 ++ ys) 0 → Calls Try.prog 12 #[.pointer (some ⟨g, 0, none⟩), .int .i64 m] W (Gave W g tR ys [] 0) := fun g W hr => by
    have := rowm_any g _ 0 (m : Int) (by simp [beB_length]; omega) W hr
    obtain ⟨e1, e2, e3⟩ := row_front ys m hl hm
    rw [e1, e2, e3] at this
    exact this
  have CPut := Lib.hid cPut
  have CRow := Lib.hid cRow
  have CRange := Lib.hid cRange
  have CRowR := Lib.hid cRowR
  clear h hl cPut cRow cRange cRowR hb
  generalize beB (v % 18446744073709551616).toNat 8 = Z at *
  generalize Z ++ (beB m 4 ++ ys) = Z2 at *
  generalize beB m 4 ++ ys = Z4 at *
  go_enter Try.func5, Try.ntmps5
  go_wp2_with (first
    | (go_at_call 6; refine (fixed_ok _).mono ?_; rintro e w1 ⟨rfl, hb1⟩; have hbb := HB.out)
    | (go_at_call 20; refine (CPut.out _).mono ?_; rintro e w2 ⟨v2, rfl, hown, hb⟩; obtain ⟨A2, c2, rfl, hc2, _⟩ := own_form hown; have O2 := Lib.hid hown; have G2 := Lib.hid hb; clear hown hb)
    | (go_at_call 21; refine (CRow.out _ A2 c2 _ hc2 (By.of_own O2.out) ((H.out.through hb1).through G2.out)).mono ?_; rintro e w3 ⟨v3, rfl, hown, hb⟩; obtain ⟨A3, c3, rfl, hc3, _⟩ := own_form hown; have O3 := Lib.hid hown; have G3 := Lib.hid hb; clear hown hb)
    | (go_at_call 7; refine (read_any _ A3 (8 + 4 + m) c3 Z2 _ (By.of_own O3.out) (by omega)).mono ?_; rintro e w4 ⟨g, rfl, hr, hb4, hg⟩; have HR4 := Lib.hid hr; have HG := Lib.hid hg; have G4 := Lib.hid hb4; clear hr hg hb4)
    | (go_at_call 10; refine (CRange.out g _ HR4.out).mono ?_; rintro e w5 ⟨rfl, hr, ho⟩; have HR5 := Lib.hid hr; have HO5 := Lib.hid ho; clear hr ho)
    | (go_at_call_of 12 g; refine (CRowR.out g _ HR5.out).mono ?_; rintro e w6 ⟨B6, n6, c6, rfl, _, hy, hr, ho⟩; have HY6 := Lib.hid hy; have HR6 := Lib.hid hr; have HO6 := Lib.hid ho; clear hy hr ho; have T36 : Below w3.heap.size w3 w6 := (G4.out.grown HO5.out G4.out.size (fun k hk => by injection hk with hk; have := HG.out; omega)).grown HO6.out (Nat.le_trans G4.out.size HO5.out.size) (fun k hk => by injection hk with hk; have := HG.out; omega); have s6 := str_by' c6 HY6.out; have t6 := str_by' c (((H.out.through hb1).through G2.out).through G3.out |>.through T36))
    | (go_at_call_of 18 g; refine (end_any g [] 0 _ HR6.out).mono ?_; rintro e w7 ⟨rfl, rfl⟩)
    | (go_at_call 8; refine (number_nil 1 rfl _).mono ?_; rintro e w8 ⟨rfl, rfl⟩)
    | (go_at_call 12; refine (row_nil 5 (by decide) _).mono ?_; rintro e w8 ⟨rfl, rfl⟩)
    | (go_at_call 16; refine (count_nil 5 (by decide) _).mono ?_; rintro e w8 ⟨rfl, rfl⟩)
    | (go_at_call 18; refine (end_nil _).mono ?_; rintro e w8 ⟨rfl, rfl⟩))
  go_ret
  exact ⟨rfl, (((hb1.trans (G2.out.mono hb1.size)).trans (G3.out.mono (Nat.le_trans hb1.size G2.out.size))).trans (T36.mono (Nat.le_trans (Nat.le_trans hb1.size G2.out.size) G3.out.size)))⟩

end Go.Proofs.Ytjjfleiebebblaa
