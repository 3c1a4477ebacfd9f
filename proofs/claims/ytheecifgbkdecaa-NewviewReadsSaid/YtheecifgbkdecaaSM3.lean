/-
  O4
-/
import Derived.Deep.RegionLaw
import Derived.Test.YtheecifgbkdecaaSM2
namespace Go.Proofs.Ytheecifgbkdecaa
open Go.RowKit

theorem beB_1 (v : Int) (h0 : 0 ≤ v) (h1 : v < 18446744073709551616) : vs (beB v.toNat 1) = [.int .u8 (v % 256)] := by
 simp only [vs, beB, List.map_cons, List.map_nil, List.nil_append, u8, List.cons.injEq, Value.int.injEq, and_true, true_and]
 simp
 omega

theorem put_src1 (w : World) (v : Int) (E : vs (beB v.toNat 1) = [.int .u8 (v % 256)]) :
  By (w.alloc (.cells #[.int .u8 (v / 72057594037927936), .int .u8 (v / 281474976710656 % 256), .int .u8 (v / 1099511627776 % 256), .int .u8 (v / 4294967296 % 256), .int .u8 (v / 16777216 % 256), .int .u8 (v / 65536 % 256), .int .u8 (v / 256 % 256), .int .u8 (v % 256)] 132)).drew (fun _ => True) (some ⟨w.heap.size, 7, none⟩) 1 (beB v.toNat 1) := by
 refine ⟨beB_length _ _, fun _ => ⟨_, _, rfl, trivial, fun j u hu => ?_⟩⟩
 have h := vs_get (beB v.toNat 1) j
 rw [hu, E] at h
 have hj : j < 1 := by have := (List.getElem?_eq_some_iff.1 hu).1; rw [beB_length] at this; exact this
 show (w.alloc _).cell? _ = _
 rw [cell_of_row _ w.heap.size _ _ _ _ (heap_alloc_new w _)]
 match j, hj with
 | 0, _ => simpa using h

set_option maxHeartbeats 1000000 in
theorem put_1 (Q : Nat → Prop) (A : Option Addr) (n c : Nat) (xs : List UInt8) (v : Int) (hv0 : 0 ≤ v) (hv1 : v < 18446744073709551616) (w : World) (h : By w Q A n xs) (hn : n ≤ 1099511627776) (hnc : n ≤ c) :
  Calls Try.prog 67 #[.slice A n c, .int .u64 v, .int .i64 1] w (Made w (n + 1) (xs ++ beB v.toNat 1)) := by
 obtain ⟨i0, hi, hz0, hz1, hz2⟩ := info_parts Try.info_u8
 have hk : wid 1 = true := rfl
 have hwr : IntKind.i64.wrap 7 = 7 := by decide
 have H : Hid (By w Q A n xs) := h
 have E : Hid (vs (beB v.toNat 1) = [.int .u8 (v % 256)]) := beB_1 v hv0 hv1
 clear h
 go_enter Try.func67, Try.ntmps67
 go_wp2_with (go_at_call 102; refine (isWidth_any _ _).mono ?_; rintro e w' ⟨rfl, rfl⟩)
 go_rounds 9
 go_region_law (refine step_append_by_grow _ rfl (.tmp 31) (.tmp 34) 28 rfl i0 Try.underlying28 hi hz0 hz1 hz2 Q A n xs (by simp [Act.eval, Act.put]) ((H.out.alloc _).drew) (fun _ => True) (some ⟨w.heap.size, 7, none⟩) 1 1 (beB v.toNat 1) (by simp [Act.eval, Act.put]) (put_src1 w v E.out) (by omega) (by omega) ?_; intro v' w1 hown hgrow)
 go_wp2
 go_ret
 exact ⟨v', rfl, own_weak hown (by simp), ((Below.refl _ w).alloc (Nat.le_refl _) _).drew.grown hgrow (by simp) (fun k h => by cases h)⟩

theorem beB_2 (v : Int) (h0 : 0 ≤ v) (h1 : v < 18446744073709551616) : vs (beB v.toNat 2) = [.int .u8 (v / 256 % 256), .int .u8 (v % 256)] := by
 simp only [vs, beB, List.map_cons, List.map_nil, List.nil_append, List.cons_append, u8, List.cons.injEq, Value.int.injEq, and_true, true_and]
 simp
 omega

theorem put_src2 (w : World) (v : Int) (E : vs (beB v.toNat 2) = [.int .u8 (v / 256 % 256), .int .u8 (v % 256)]) :
  By (w.alloc (.cells #[.int .u8 (v / 72057594037927936), .int .u8 (v / 281474976710656 % 256), .int .u8 (v / 1099511627776 % 256), .int .u8 (v / 4294967296 % 256), .int .u8 (v / 16777216 % 256), .int .u8 (v / 65536 % 256), .int .u8 (v / 256 % 256), .int .u8 (v % 256)] 132)).drew (fun _ => True) (some ⟨w.heap.size, 6, none⟩) 2 (beB v.toNat 2) := by
 refine ⟨beB_length _ _, fun _ => ⟨_, _, rfl, trivial, fun j u hu => ?_⟩⟩
 have h := vs_get (beB v.toNat 2) j
 rw [hu, E] at h
 have hj : j < 2 := by have := (List.getElem?_eq_some_iff.1 hu).1; rw [beB_length] at this; exact this
 show (w.alloc _).cell? _ = _
 rw [cell_of_row _ w.heap.size _ _ _ _ (heap_alloc_new w _)]
 match j, hj with
 | 0, _ => simpa using h
 | 1, _ => simpa using h

set_option maxHeartbeats 1000000 in
theorem put_2 (Q : Nat → Prop) (A : Option Addr) (n c : Nat) (xs : List UInt8) (v : Int) (hv0 : 0 ≤ v) (hv1 : v < 18446744073709551616) (w : World) (h : By w Q A n xs) (hn : n ≤ 1099511627776) (hnc : n ≤ c) :
  Calls Try.prog 67 #[.slice A n c, .int .u64 v, .int .i64 2] w (Made w (n + 2) (xs ++ beB v.toNat 2)) := by
 obtain ⟨i0, hi, hz0, hz1, hz2⟩ := info_parts Try.info_u8
 have hk : wid 2 = true := rfl
 have hwr : IntKind.i64.wrap 6 = 6 := by decide
 have H : Hid (By w Q A n xs) := h
 have E : Hid (vs (beB v.toNat 2) = [.int .u8 (v / 256 % 256), .int .u8 (v % 256)]) := beB_2 v hv0 hv1
 clear h
 go_enter Try.func67, Try.ntmps67
 go_wp2_with (go_at_call 102; refine (isWidth_any _ _).mono ?_; rintro e w' ⟨rfl, rfl⟩)
 go_rounds 9
 go_region_law (refine step_append_by_grow _ rfl (.tmp 31) (.tmp 34) 28 rfl i0 Try.underlying28 hi hz0 hz1 hz2 Q A n xs (by simp [Act.eval, Act.put]) ((H.out.alloc _).drew) (fun _ => True) (some ⟨w.heap.size, 6, none⟩) 2 2 (beB v.toNat 2) (by simp [Act.eval, Act.put]) (put_src2 w v E.out) (by omega) (by omega) ?_; intro v' w1 hown hgrow)
 go_wp2
 go_ret
 exact ⟨v', rfl, own_weak hown (by simp), ((Below.refl _ w).alloc (Nat.le_refl _) _).drew.grown hgrow (by simp) (fun k h => by cases h)⟩

theorem beB_4 (v : Int) (h0 : 0 ≤ v) (h1 : v < 18446744073709551616) : vs (beB v.toNat 4) = [.int .u8 (v / 16777216 % 256), .int .u8 (v / 65536 % 256), .int .u8 (v / 256 % 256), .int .u8 (v % 256)] := by
 simp only [vs, beB, List.map_cons, List.map_nil, List.nil_append, List.cons_append, u8, List.cons.injEq, Value.int.injEq, and_true, true_and]
 simp
 omega

theorem put_src4 (w : World) (v : Int) (E : vs (beB v.toNat 4) = [.int .u8 (v / 16777216 % 256), .int .u8 (v / 65536 % 256), .int .u8 (v / 256 % 256), .int .u8 (v % 256)]) :
  By (w.alloc (.cells #[.int .u8 (v / 72057594037927936), .int .u8 (v / 281474976710656 % 256), .int .u8 (v / 1099511627776 % 256), .int .u8 (v / 4294967296 % 256), .int .u8 (v / 16777216 % 256), .int .u8 (v / 65536 % 256), .int .u8 (v / 256 % 256), .int .u8 (v % 256)] 132)).drew (fun _ => True) (some ⟨w.heap.size, 4, none⟩) 4 (beB v.toNat 4) := by
 refine ⟨beB_length _ _, fun _ => ⟨_, _, rfl, trivial, fun j u hu => ?_⟩⟩
 have h := vs_get (beB v.toNat 4) j
 rw [hu, E] at h
 have hj : j < 4 := by have := (List.getElem?_eq_some_iff.1 hu).1; rw [beB_length] at this; exact this
 show (w.alloc _).cell? _ = _
 rw [cell_of_row _ w.heap.size _ _ _ _ (heap_alloc_new w _)]
 match j, hj with
 | 0, _ => simpa using h
 | 1, _ => simpa using h
 | 2, _ => simpa using h
 | 3, _ => simpa using h

set_option maxHeartbeats 1000000 in
theorem put_4 (Q : Nat → Prop) (A : Option Addr) (n c : Nat) (xs : List UInt8) (v : Int) (hv0 : 0 ≤ v) (hv1 : v < 18446744073709551616) (w : World) (h : By w Q A n xs) (hn : n ≤ 1099511627776) (hnc : n ≤ c) :
  Calls Try.prog 67 #[.slice A n c, .int .u64 v, .int .i64 4] w (Made w (n + 4) (xs ++ beB v.toNat 4)) := by
 obtain ⟨i0, hi, hz0, hz1, hz2⟩ := info_parts Try.info_u8
 have hk : wid 4 = true := rfl
 have hwr : IntKind.i64.wrap 4 = 4 := by decide
 have H : Hid (By w Q A n xs) := h
 have E : Hid (vs (beB v.toNat 4) = [.int .u8 (v / 16777216 % 256), .int .u8 (v / 65536 % 256), .int .u8 (v / 256 % 256), .int .u8 (v % 256)]) := beB_4 v hv0 hv1
 clear h
 go_enter Try.func67, Try.ntmps67
 go_wp2_with (go_at_call 102; refine (isWidth_any _ _).mono ?_; rintro e w' ⟨rfl, rfl⟩)
 go_rounds 9
 go_region_law (refine step_append_by_grow _ rfl (.tmp 31) (.tmp 34) 28 rfl i0 Try.underlying28 hi hz0 hz1 hz2 Q A n xs (by simp [Act.eval, Act.put]) ((H.out.alloc _).drew) (fun _ => True) (some ⟨w.heap.size, 4, none⟩) 4 4 (beB v.toNat 4) (by simp [Act.eval, Act.put]) (put_src4 w v E.out) (by omega) (by omega) ?_; intro v' w1 hown hgrow)
 go_wp2
 go_ret
 exact ⟨v', rfl, own_weak hown (by simp), ((Below.refl _ w).alloc (Nat.le_refl _) _).drew.grown hgrow (by simp) (fun k h => by cases h)⟩

theorem beB_8 (v : Int) (h0 : 0 ≤ v) (h1 : v < 18446744073709551616) : vs (beB v.toNat 8) = [.int .u8 (v / 72057594037927936), .int .u8 (v / 281474976710656 % 256), .int .u8 (v / 1099511627776 % 256), .int .u8 (v / 4294967296 % 256), .int .u8 (v / 16777216 % 256), .int .u8 (v / 65536 % 256), .int .u8 (v / 256 % 256), .int .u8 (v % 256)] := by
 simp only [vs, beB, List.map_cons, List.map_nil, List.nil_append, List.cons_append, u8, List.cons.injEq, Value.int.injEq, and_true, true_and]
 simp
 omega

theorem put_src8 (w : World) (v : Int) (E : vs (beB v.toNat 8) = [.int .u8 (v / 72057594037927936), .int .u8 (v / 281474976710656 % 256), .int .u8 (v / 1099511627776 % 256), .int .u8 (v / 4294967296 % 256), .int .u8 (v / 16777216 % 256), .int .u8 (v / 65536 % 256), .int .u8 (v / 256 % 256), .int .u8 (v % 256)]) :
  By (w.alloc (.cells #[.int .u8 (v / 72057594037927936), .int .u8 (v / 281474976710656 % 256), .int .u8 (v / 1099511627776 % 256), .int .u8 (v / 4294967296 % 256), .int .u8 (v / 16777216 % 256), .int .u8 (v / 65536 % 256), .int .u8 (v / 256 % 256), .int .u8 (v % 256)] 132)).drew (fun _ => True) (some ⟨w.heap.size, 0, none⟩) 8 (beB v.toNat 8) := by
 refine ⟨beB_length _ _, fun _ => ⟨_, _, rfl, trivial, fun j u hu => ?_⟩⟩
 have h := vs_get (beB v.toNat 8) j
 rw [hu, E] at h
 have hj : j < 8 := by have := (List.getElem?_eq_some_iff.1 hu).1; rw [beB_length] at this; exact this
 show (w.alloc _).cell? _ = _
 rw [cell_of_row _ w.heap.size _ _ _ _ (heap_alloc_new w _)]
 match j, hj with
 | 0, _ => simpa using h
 | 1, _ => simpa using h
 | 2, _ => simpa using h
 | 3, _ => simpa using h
 | 4, _ => simpa using h
 | 5, _ => simpa using h
 | 6, _ => simpa using h
 | 7, _ => simpa using h

set_option maxHeartbeats 1000000 in
theorem put_8 (Q : Nat → Prop) (A : Option Addr) (n c : Nat) (xs : List UInt8) (v : Int) (hv0 : 0 ≤ v) (hv1 : v < 18446744073709551616) (w : World) (h : By w Q A n xs) (hn : n ≤ 1099511627776) (hnc : n ≤ c) :
  Calls Try.prog 67 #[.slice A n c, .int .u64 v, .int .i64 8] w (Made w (n + 8) (xs ++ beB v.toNat 8)) := by
 obtain ⟨i0, hi, hz0, hz1, hz2⟩ := info_parts Try.info_u8
 have hk : wid 8 = true := rfl
 have hwr : IntKind.i64.wrap 0 = 0 := by decide
 have H : Hid (By w Q A n xs) := h
 have E : Hid (vs (beB v.toNat 8) = [.int .u8 (v / 72057594037927936), .int .u8 (v / 281474976710656 % 256), .int .u8 (v / 1099511627776 % 256), .int .u8 (v / 4294967296 % 256), .int .u8 (v / 16777216 % 256), .int .u8 (v / 65536 % 256), .int .u8 (v / 256 % 256), .int .u8 (v % 256)]) := beB_8 v hv0 hv1
 clear h
 go_enter Try.func67, Try.ntmps67
 go_wp2_with (go_at_call 102; refine (isWidth_any _ _).mono ?_; rintro e w' ⟨rfl, rfl⟩)
 go_rounds 9
 go_region_law (refine step_append_by_grow _ rfl (.tmp 31) (.tmp 34) 28 rfl i0 Try.underlying28 hi hz0 hz1 hz2 Q A n xs (by simp [Act.eval, Act.put]) ((H.out.alloc _).drew) (fun _ => True) (some ⟨w.heap.size, 0, none⟩) 8 8 (beB v.toNat 8) (by simp [Act.eval, Act.put]) (put_src8 w v E.out) (by omega) (by omega) ?_; intro v' w1 hown hgrow)
 go_wp2
 go_ret
 exact ⟨v', rfl, own_weak hown (by simp), ((Below.refl _ w).alloc (Nat.le_refl _) _).drew.grown hgrow (by simp) (fun k h => by cases h)⟩

set_option maxHeartbeats 1000000 in
theorem put_no (Q : Nat → Prop) (A : Option Addr) (n c : Nat) (xs : List UInt8) (v k : Int) (hk : wid k = false) (w : World) (h : By w Q A n xs) (hn : n ≤ 1099511627776) :
  Calls Try.prog 67 #[.slice A n c, .int .u64 v, .int .i64 k] w (Made w n xs) := by
 have H : Hid (By w Q A n xs) := h
 clear h
 go_enter Try.func67, Try.ntmps67
 go_wp2_with (first | (go_at_call 102; refine (isWidth_any _ _).mono ?_; rintro e w' ⟨rfl, rfl⟩) | (go_at_call 89; refine (clone_any Q A n c xs _ H.out (by omega)).mono ?_; rintro e w' ⟨v, rfl, hown, hb⟩))
 go_ret
 exact ⟨_, rfl, hown, hb⟩

/-- PUT, OF WHATEVER BYTES, NUMBER, AND WIDTH. -/
def putB (xs : List UInt8) (v : Nat) (k : Int) : List UInt8 := if wid k then xs ++ beB v k.toNat else xs

def putN (n : Nat) (k : Int) : Nat := if wid k then n + k.toNat else n

theorem put_any (Q : Nat → Prop) (A : Option Addr) (n c : Nat) (xs : List UInt8) (v k : Int) (hv0 : 0 ≤ v) (hv1 : v < 18446744073709551616) (w : World) (h : By w Q A n xs) (hn : n ≤ 1099511627776) (hnc : n ≤ c) :
  Calls Try.prog 67 #[.slice A n c, .int .u64 v, .int .i64 k] w (Made w (putN n k) (putB xs v.toNat k)) := by
 unfold putN putB
 cases hk : wid k with
 | false => exact put_no Q A n c xs v k hk w h hn
 | true =>
  rcases wid_iff.1 hk with rfl | rfl | rfl | rfl
  ·exact put_1 Q A n c xs v hv0 hv1 w h hn hnc
  ·exact put_2 Q A n c xs v hv0 hv1 w h hn hnc
  ·exact put_4 Q A n c xs v hv0 hv1 w h hn hnc
  ·exact put_8 Q A n c xs v hv0 hv1 w h hn hnc

theorem By.one {w : World} {Q : Nat → Prop} {x : Int} {b : UInt8} (t : TypeId) (hQ : Q w.heap.size) (h : u8 b = .int .u8 x) : By (w.alloc (.cells #[.int .u8 x] t)) Q (some ⟨w.heap.size, 0, none⟩) 1 [b] := by
 refine ⟨rfl, fun _ => ⟨_, _, rfl, hQ, fun j u hu => ?_⟩⟩
 match j, hu with
 | 0, hu =>
  simp at hu
  subst hu
  rw [cell_of_row _ w.heap.size _ _ _ _ (heap_alloc_new w _), h]
  rfl

set_option maxHeartbeats 1000000 in
theorem row_any (Q : Nat → Prop) (A : Option Addr) (n c : Nat) (xs : List UInt8) (Q2 : Nat → Prop) (B : Option Addr) (m d : Nat) (ys : List UInt8) (w : World) (h : By w Q A n xs) (h2 : By w Q2 B m ys) (hn : n ≤ 1099511627776) (hm : m ≤ 1099511627776) (hnc : n ≤ c) :
  Calls Try.prog 76 #[.slice A n c, .slice B m d] w (Made w (n + 4 + m) (xs ++ beB m 4 ++ ys)) := by
 obtain ⟨i0, hi, hz0, hz1, hz2⟩ := info_parts Try.info_u8
 have H := Lib.hid h
 have H2 := Lib.hid h2
 clear h h2
 have C : ∀ W : World, By W Q A n xs → Calls Try.prog 67 #[.slice A n c, .int .u64 (m : Int), .int .i64 4] W (Made W (n + 4) (xs ++ beB m 4)) := fun W hW => by
  have := put_any Q A n c xs (m : Int) 4 (by omega) (by omega) W hW hn hnc
  simpa [putN, putB, wid] using this
 have CH := Lib.hid C
 clear C
 go_enter Try.func76, Try.ntmps76
 go_wp2_with (first
  | (go_at_call 67; refine (CH.out _ H.out).mono ?_; rintro e w1 ⟨v1, rfl, hown1, hb1⟩; have O1 := Lib.hid hown1; clear hown1)
  | (at_builtin; refine wpList_append_by _ rfl (.tmp 9) (.tmp 10) 28 rfl w.heap.size i0 Try.underlying28 hi hz0 hz1 hz2 v1 (n + 4) (vs (xs ++ beB m 4)) rfl O1.out Q2 B m d ys rfl (H2.out.through hb1) (by omega) hb1.size ?_; intro v2 w2 hown2 hgrow2 _))
 go_wp2
 go_ret
 exact ⟨v2, rfl, by rw [← vs_append]; exact hown2, hb1.grown hgrow2 hb1.size (fun g hg => (O1.out.lt g hg).1)⟩

end Go.Proofs.Ytheecifgbkdecaa
