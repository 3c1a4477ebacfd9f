/-
  Joined: OL, O4, O2, O3, CoR, OBy.
-/
import Derived.Test.YtgbobemhogeeeaaDoorDA
import Derived.Deep.RegionLaw
import Derived.Test.YtgbobemhogeeeaaDoorFBase
import Derived.Lib.ConvBytes
namespace Go.Proofs.YtgbobemhogeeeaaDoor

section
open Go.RowKit
set_option maxHeartbeats 400000 in
theorem isWidth_any (k : Int) (w : World) : Calls Tryd.prog 37 #[.int .i64 k] w fun e w' => e = .returned (.bool (wid k)) ∧ w = w' := by
  by_cases h1 : k = 1
  · subst h1
    go_enter Tryd.func37, Tryd.ntmps37
    go_wp2
    go_ret
    exact ⟨rfl, rfl⟩
  have e1 : (k == 1) = false := by simpa using h1
  by_cases h2 : k = 2
  · subst h2
    go_enter Tryd.func37, Tryd.ntmps37
    go_wp2
    go_ret
    exact ⟨rfl, rfl⟩
  have e2 : (k == 2) = false := by simpa using h2
  by_cases h4 : k = 4
  · subst h4
    go_enter Tryd.func37, Tryd.ntmps37
    go_wp2
    go_ret
    exact ⟨rfl, rfl⟩
  have e4 : (k == 4) = false := by simpa using h4
  have hw : wid k = (k == 8) := by simp [wid, e1, e2, e4]
  rw [hw]
  clear hw
  go_enter Tryd.func37, Tryd.ntmps37
  go_wp2
  go_ret
  exact ⟨rfl, rfl⟩

set_option maxHeartbeats 400000 in
theorem size_any (k : Int) (w : World) : Calls Tryd.prog 38 #[.int .i64 k] w fun e w' => e = .returned (.bool (wid k)) ∧ w = w' := by
  by_cases h1 : k = 1
  · subst h1
    go_enter Tryd.func38, Tryd.ntmps38
    go_wp2
    go_ret
    exact ⟨rfl, rfl⟩
  have e1 : (k == 1) = false := by simpa using h1
  by_cases h2 : k = 2
  · subst h2
    go_enter Tryd.func38, Tryd.ntmps38
    go_wp2
    go_ret
    exact ⟨rfl, rfl⟩
  have e2 : (k == 2) = false := by simpa using h2
  by_cases h4 : k = 4
  · subst h4
    go_enter Tryd.func38, Tryd.ntmps38
    go_wp2
    go_ret
    exact ⟨rfl, rfl⟩
  have e4 : (k == 4) = false := by simpa using h4
  have hw : wid k = (k == 8) := by simp [wid, e1, e2, e4]
  rw [hw]
  clear hw
  go_enter Tryd.func38, Tryd.ntmps38
  go_wp2
  go_ret
  exact ⟨rfl, rfl⟩

set_option maxHeartbeats 1000000 in
theorem clone_any (Q : Nat → Prop) (A : Option Addr) (n c : Nat) (xs : List UInt8) (w : World) (h : By w Q A n xs) (hn : n ≤ 140737488355328) :
    Calls Tryd.prog 17 #[.slice A n c] w (Made w n xs) := by
  have q22 : ∀ (w : World) (a : Option Addr) (n c n' c' : Nat), (binOp .eql 34 (.slice a n c) (.slice none n' c')).run Tryd.prog w = .ok (.bool a.isNone) w := fun w a n c n' c' => Lib.run_eql_slice_nil w _ _ a n c n' c' Tryd.underlying34
  obtain ⟨i0, hi, hz0, hz1, hz2⟩ := info_parts Tryd.info_u8
  rcases A with _ | ad
  · obtain rfl : n = 0 := by
      rcases Nat.eq_zero_or_pos n with h0 | h0
      · exact h0
      · obtain ⟨_, _, h, _⟩ := h.2 h0
        cases h
    obtain rfl : xs = [] := List.eq_nil_of_length_eq_zero h.1
    clear h
    go_enter Tryd.func17, Tryd.ntmps17
    go_wp2
    go_ret
    exact ⟨_, rfl, World.ownsRow_nil _ _ _ _, Below.refl _ _⟩
  · have H : Hid (By w Q (some ad) n xs) := h
    clear h
    go_enter Tryd.func17, Tryd.ntmps17
    go_wp2_with (at_builtin; refine wpList_append_by _ rfl _ _ 34 rfl w.heap.size i0 Tryd.underlying34 hi hz0 hz1 hz2 _ 0 [] rfl (World.ownsRow_made w #[] 0 (Nat.le_refl _) (Nat.zero_le _) rfl) Q (some ad) n c xs rfl (H.out.alloc _) ?b1 ?b2 ?_)
    case b1 => omega
    case b2 => simp
    intro v' w1 hown hgrow _
    go_wp2
    go_ret
    refine ⟨v', rfl, by simpa using hown, ?_⟩
    exact ((Below.refl _ w).alloc (Nat.le_refl _) _).grown hgrow (by simp) (by intro k hk; simp [Value.ownBlock] at hk; omega)
end

section
open Go.RowKit
theorem beB_byte (v : Int) (h : 0 ≤ v) : u8 (UInt8.ofNat v.toNat) = .int .u8 (v % 256) := by
  unfold u8
  congr 1
  simp
  omega

theorem beB_1 (v : Int) (h0 : 0 ≤ v) (h1 : v < 18446744073709551616) : vs (beB v.toNat 1) = [.int .u8 (v % 256)] := by
  simp only [vs, beB, List.map_cons, List.map_nil, List.nil_append, u8, List.cons.injEq, Value.int.injEq, and_true, true_and]
  simp
  omega

theorem put_src1 (w : World) (v : Int) (E : vs (beB v.toNat 1) = [.int .u8 (v % 256)]) :
    By (w.alloc (.cells #[.int .u8 (v / 72057594037927936), .int .u8 (v / 281474976710656 % 256), .int .u8 (v / 1099511627776 % 256), .int .u8 (v / 4294967296 % 256), .int .u8 (v / 16777216 % 256), .int .u8 (v / 65536 % 256), .int .u8 (v / 256 % 256), .int .u8 (v % 256)] 76)).drew (fun _ => True) (some ⟨w.heap.size, 7, none⟩) 1 (beB v.toNat 1) := by
  refine ⟨beB_length _ _, fun _ => ⟨_, _, rfl, trivial, fun j u hu => ?_⟩⟩
  have h := vs_get (beB v.toNat 1) j
  rw [hu, E] at h
  have hj : j < 1 := by have := (List.getElem?_eq_some_iff.1 hu).1; rw [beB_length] at this; exact this
  show (w.alloc _).cell? _ = _
  rw [cell_of_row _ w.heap.size _ _ _ _ (heap_alloc_new w _)]
  match j, hj with
  | 0, _ => simpa using h

set_option maxHeartbeats 1000000 in
theorem put_1 (Q : Nat → Prop) (A : Option Addr) (n c : Nat) (xs : List UInt8) (v : Int) (hv0 : 0 ≤ v) (hv1 : v < 18446744073709551616) (w : World) (h : By w Q A n xs) (hn : n ≤ 1099511627776) (hnc : n ≤ c) :
    Calls Tryd.prog 21 #[.slice A n c, .int .u64 v, .int .i64 1] w (Made w (n + 1) (xs ++ beB v.toNat 1)) := by
  obtain ⟨i0, hi, hz0, hz1, hz2⟩ := info_parts Tryd.info_u8
  have hk : wid 1 = true := rfl
  have hwr : IntKind.i64.wrap 7 = 7 := by decide
  have H : Hid (By w Q A n xs) := h
  have E : Hid (vs (beB v.toNat 1) = [.int .u8 (v % 256)]) := beB_1 v hv0 hv1
  clear h
  go_enter Tryd.func21, Tryd.ntmps21
  go_wp2_with (go_at_call 37; refine (isWidth_any _ _).mono ?_; rintro e w' ⟨rfl, rfl⟩)
  go_rounds 9
  go_region_law (refine step_append_by_grow _ rfl (.tmp 31) (.tmp 34) 34 rfl i0 Tryd.underlying34 hi hz0 hz1 hz2 Q A n xs (by simp [Act.eval, Act.put]) ((H.out.alloc _).drew) (fun _ => True) (some ⟨w.heap.size, 7, none⟩) 1 1 (beB v.toNat 1) (by simp [Act.eval, Act.put]) (put_src1 w v E.out) (by omega) (by omega) ?_; intro v' w1 hown hgrow)
  go_wp2
  go_ret
  exact ⟨v', rfl, own_weak hown (by simp), ((Below.refl _ w).alloc (Nat.le_refl _) _).drew.grown hgrow (by simp) (fun k h => by cases h)⟩

theorem beB_2 (v : Int) (h0 : 0 ≤ v) (h1 : v < 18446744073709551616) : vs (beB v.toNat 2) = [.int .u8 (v / 256 % 256), .int .u8 (v % 256)] := by
  simp only [vs, beB, List.map_cons, List.map_nil, List.nil_append, List.cons_append, u8, List.cons.injEq, Value.int.injEq, and_true, true_and]
  simp
  omega

theorem put_src2 (w : World) (v : Int) (E : vs (beB v.toNat 2) = [.int .u8 (v / 256 % 256), .int .u8 (v % 256)]) :
    By (w.alloc (.cells #[.int .u8 (v / 72057594037927936), .int .u8 (v / 281474976710656 % 256), .int .u8 (v / 1099511627776 % 256), .int .u8 (v / 4294967296 % 256), .int .u8 (v / 16777216 % 256), .int .u8 (v / 65536 % 256), .int .u8 (v / 256 % 256), .int .u8 (v % 256)] 76)).drew (fun _ => True) (some ⟨w.heap.size, 6, none⟩) 2 (beB v.toNat 2) := by
  refine ⟨beB_length _ _, fun _ => ⟨_, _, rfl, trivial, fun j u hu => ?_⟩⟩
  have h := vs_get (beB v.toNat 2) j
  rw [hu, E] at h
  have hj : j < 2 := by have := (List.getElem?_eq_some_iff.1 hu).1; rw [beB_length] at this; exact this
  show (w.alloc _).cell? _ = _
  rw [cell_of_row _ w.heap.size _ _ _ _ (heap_alloc_new w _)]
  match j, hj with
  | 0, _ => simpa using h
  | 1, _ => simpa using h

set_option maxHeartbeats 1000000 in
theorem put_2 (Q : Nat → Prop) (A : Option Addr) (n c : Nat) (xs : List UInt8) (v : Int) (hv0 : 0 ≤ v) (hv1 : v < 18446744073709551616) (w : World) (h : By w Q A n xs) (hn : n ≤ 1099511627776) (hnc : n ≤ c) :
    Calls Tryd.prog 21 #[.slice A n c, .int .u64 v, .int .i64 2] w (Made w (n + 2) (xs ++ beB v.toNat 2)) := by
  obtain ⟨i0, hi, hz0, hz1, hz2⟩ := info_parts Tryd.info_u8
  have hk : wid 2 = true := rfl
  have hwr : IntKind.i64.wrap 6 = 6 := by decide
  have H : Hid (By w Q A n xs) := h
  have E : Hid (vs (beB v.toNat 2) = [.int .u8 (v / 256 % 256), .int .u8 (v % 256)]) := beB_2 v hv0 hv1
  clear h
  go_enter Tryd.func21, Tryd.ntmps21
  go_wp2_with (go_at_call 37; refine (isWidth_any _ _).mono ?_; rintro e w' ⟨rfl, rfl⟩)
  go_rounds 9
  go_region_law (refine step_append_by_grow _ rfl (.tmp 31) (.tmp 34) 34 rfl i0 Tryd.underlying34 hi hz0 hz1 hz2 Q A n xs (by simp [Act.eval, Act.put]) ((H.out.alloc _).drew) (fun _ => True) (some ⟨w.heap.size, 6, none⟩) 2 2 (beB v.toNat 2) (by simp [Act.eval, Act.put]) (put_src2 w v E.out) (by omega) (by omega) ?_; intro v' w1 hown hgrow)
  go_wp2
  go_ret
  exact ⟨v', rfl, own_weak hown (by simp), ((Below.refl _ w).alloc (Nat.le_refl _) _).drew.grown hgrow (by simp) (fun k h => by cases h)⟩

theorem beB_4 (v : Int) (h0 : 0 ≤ v) (h1 : v < 18446744073709551616) : vs (beB v.toNat 4) = [.int .u8 (v / 16777216 % 256), .int .u8 (v / 65536 % 256), .int .u8 (v / 256 % 256), .int .u8 (v % 256)] := by
  simp only [vs, beB, List.map_cons, List.map_nil, List.nil_append, List.cons_append, u8, List.cons.injEq, Value.int.injEq, and_true, true_and]
  simp
  omega

theorem put_src4 (w : World) (v : Int) (E : vs (beB v.toNat 4) = [.int .u8 (v / 16777216 % 256), .int .u8 (v / 65536 % 256), .int .u8 (v / 256 % 256), .int .u8 (v % 256)]) :
    By (w.alloc (.cells #[.int .u8 (v / 72057594037927936), .int .u8 (v / 281474976710656 % 256), .int .u8 (v / 1099511627776 % 256), .int .u8 (v / 4294967296 % 256), .int .u8 (v / 16777216 % 256), .int .u8 (v / 65536 % 256), .int .u8 (v / 256 % 256), .int .u8 (v % 256)] 76)).drew (fun _ => True) (some ⟨w.heap.size, 4, none⟩) 4 (beB v.toNat 4) := by
  refine ⟨beB_length _ _, fun _ => ⟨_, _, rfl, trivial, fun j u hu => ?_⟩⟩
  have h := vs_get (beB v.toNat 4) j
  rw [hu, E] at h
  have hj : j < 4 := by have := (List.getElem?_eq_some_iff.1 hu).1; rw [beB_length] at this; exact this
  show (w.alloc _).cell? _ = _
  rw [cell_of_row _ w.heap.size _ _ _ _ (heap_alloc_new w _)]
  match j, hj with
  | 0, _ => simpa using h
  | 1, _ => simpa using h
  | 2, _ => simpa using h
  | 3, _ => simpa using h

set_option maxHeartbeats 1000000 in
theorem put_4 (Q : Nat → Prop) (A : Option Addr) (n c : Nat) (xs : List UInt8) (v : Int) (hv0 : 0 ≤ v) (hv1 : v < 18446744073709551616) (w : World) (h : By w Q A n xs) (hn : n ≤ 1099511627776) (hnc : n ≤ c) :
    Calls Tryd.prog 21 #[.slice A n c, .int .u64 v, .int .i64 4] w (Made w (n + 4) (xs ++ beB v.toNat 4)) := by
  obtain ⟨i0, hi, hz0, hz1, hz2⟩ := info_parts Tryd.info_u8
  have hk : wid 4 = true := rfl
  have hwr : IntKind.i64.wrap 4 = 4 := by decide
  have H : Hid (By w Q A n xs) := h
  have E : Hid (vs (beB v.toNat 4) = [.int .u8 (v / 16777216 % 256), .int .u8 (v / 65536 % 256), .int .u8 (v / 256 % 256), .int .u8 (v % 256)]) := beB_4 v hv0 hv1
  clear h
  go_enter Tryd.func21, Tryd.ntmps21
  go_wp2_with (go_at_call 37; refine (isWidth_any _ _).mono ?_; rintro e w' ⟨rfl, rfl⟩)
  go_rounds 9
  go_region_law (refine step_append_by_grow _ rfl (.tmp 31) (.tmp 34) 34 rfl i0 Tryd.underlying34 hi hz0 hz1 hz2 Q A n xs (by simp [Act.eval, Act.put]) ((H.out.alloc _).drew) (fun _ => True) (some ⟨w.heap.size, 4, none⟩) 4 4 (beB v.toNat 4) (by simp [Act.eval, Act.put]) (put_src4 w v E.out) (by omega) (by omega) ?_; intro v' w1 hown hgrow)
  go_wp2
  go_ret
  exact ⟨v', rfl, own_weak hown (by simp), ((Below.refl _ w).alloc (Nat.le_refl _) _).drew.grown hgrow (by simp) (fun k h => by cases h)⟩

theorem beB_8 (v : Int) (h0 : 0 ≤ v) (h1 : v < 18446744073709551616) : vs (beB v.toNat 8) = [.int .u8 (v / 72057594037927936), .int .u8 (v / 281474976710656 % 256), .int .u8 (v / 1099511627776 % 256), .int .u8 (v / 4294967296 % 256), .int .u8 (v / 16777216 % 256), .int .u8 (v / 65536 % 256), .int .u8 (v / 256 % 256), .int .u8 (v % 256)] := by
  simp only [vs, beB, List.map_cons, List.map_nil, List.nil_append, List.cons_append, u8, List.cons.injEq, Value.int.injEq, and_true, true_and]
  simp
  omega

theorem put_src8 (w : World) (v : Int) (E : vs (beB v.toNat 8) = [.int .u8 (v / 72057594037927936), .int .u8 (v / 281474976710656 % 256), .int .u8 (v / 1099511627776 % 256), .int .u8 (v / 4294967296 % 256), .int .u8 (v / 16777216 % 256), .int .u8 (v / 65536 % 256), .int .u8 (v / 256 % 256), .int .u8 (v % 256)]) :
    By (w.alloc (.cells #[.int .u8 (v / 72057594037927936), .int .u8 (v / 281474976710656 % 256), .int .u8 (v / 1099511627776 % 256), .int .u8 (v / 4294967296 % 256), .int .u8 (v / 16777216 % 256), .int .u8 (v / 65536 % 256), .int .u8 (v / 256 % 256), .int .u8 (v % 256)] 76)).drew (fun _ => True) (some ⟨w.heap.size, 0, none⟩) 8 (beB v.toNat 8) := by
  refine ⟨beB_length _ _, fun _ => ⟨_, _, rfl, trivial, fun j u hu => ?_⟩⟩
  have h := vs_get (beB v.toNat 8) j
  rw [hu, E] at h
  have hj : j < 8 := by have := (List.getElem?_eq_some_iff.1 hu).1; rw [beB_length] at this; exact this
  show (w.alloc _).cell? _ = _
  rw [cell_of_row _ w.heap.size _ _ _ _ (heap_alloc_new w _)]
  match j, hj with
  | 0, _ => simpa using h
  | 1, _ => simpa using h
  | 2, _ => simpa using h
  | 3, _ => simpa using h
  | 4, _ => simpa using h
  | 5, _ => simpa using h
  | 6, _ => simpa using h
  | 7, _ => simpa using h

set_option maxHeartbeats 1000000 in
theorem put_8 (Q : Nat → Prop) (A : Option Addr) (n c : Nat) (xs : List UInt8) (v : Int) (hv0 : 0 ≤ v) (hv1 : v < 18446744073709551616) (w : World) (h : By w Q A n xs) (hn : n ≤ 1099511627776) (hnc : n ≤ c) :
    Calls Tryd.prog 21 #[.slice A n c, .int .u64 v, .int .i64 8] w (Made w (n + 8) (xs ++ beB v.toNat 8)) := by
  obtain ⟨i0, hi, hz0, hz1, hz2⟩ := info_parts Tryd.info_u8
  have hk : wid 8 = true := rfl
  have hwr : IntKind.i64.wrap 0 = 0 := by decide
  have H : Hid (By w Q A n xs) := h
  have E : Hid (vs (beB v.toNat 8) = [.int .u8 (v / 72057594037927936), .int .u8 (v / 281474976710656 % 256), .int .u8 (v / 1099511627776 % 256), .int .u8 (v / 4294967296 % 256), .int .u8 (v / 16777216 % 256), .int .u8 (v / 65536 % 256), .int .u8 (v / 256 % 256), .int .u8 (v % 256)]) := beB_8 v hv0 hv1
  clear h
  go_enter Tryd.func21, Tryd.ntmps21
  go_wp2_with (go_at_call 37; refine (isWidth_any _ _).mono ?_; rintro e w' ⟨rfl, rfl⟩)
  go_rounds 9
  go_region_law (refine step_append_by_grow _ rfl (.tmp 31) (.tmp 34) 34 rfl i0 Tryd.underlying34 hi hz0 hz1 hz2 Q A n xs (by simp [Act.eval, Act.put]) ((H.out.alloc _).drew) (fun _ => True) (some ⟨w.heap.size, 0, none⟩) 8 8 (beB v.toNat 8) (by simp [Act.eval, Act.put]) (put_src8 w v E.out) (by omega) (by omega) ?_; intro v' w1 hown hgrow)
  go_wp2
  go_ret
  exact ⟨v', rfl, own_weak hown (by simp), ((Below.refl _ w).alloc (Nat.le_refl _) _).drew.grown hgrow (by simp) (fun k h => by cases h)⟩

set_option maxHeartbeats 1000000 in
theorem put_no (Q : Nat → Prop) (A : Option Addr) (n c : Nat) (xs : List UInt8) (v k : Int) (hk : wid k = false) (w : World) (h : By w Q A n xs) (hn : n ≤ 1099511627776) :
    Calls Tryd.prog 21 #[.slice A n c, .int .u64 v, .int .i64 k] w (Made w n xs) := by
  have H : Hid (By w Q A n xs) := h
  clear h
  go_enter Tryd.func21, Tryd.ntmps21
  go_wp2_with (first | (go_at_call 37; refine (isWidth_any _ _).mono ?_; rintro e w' ⟨rfl, rfl⟩) | (go_at_call 17; refine (clone_any Q A n c xs _ H.out (by omega)).mono ?_; rintro e w' ⟨v, rfl, hown, hb⟩))
  go_ret
  exact ⟨_, rfl, hown, hb⟩

/-- PUT, OF WHATEVER BYTES, NUMBER, AND WIDTH. -/
def putB (xs : List UInt8) (v : Nat) (k : Int) : List UInt8 := if wid k then xs ++ beB v k.toNat else xs

def putN (n : Nat) (k : Int) : Nat := if wid k then n + k.toNat else n

theorem put_any (Q : Nat → Prop) (A : Option Addr) (n c : Nat) (xs : List UInt8) (v k : Int) (hv0 : 0 ≤ v) (hv1 : v < 18446744073709551616) (w : World) (h : By w Q A n xs) (hn : n ≤ 1099511627776) (hnc : n ≤ c) :
    Calls Tryd.prog 21 #[.slice A n c, .int .u64 v, .int .i64 k] w (Made w (putN n k) (putB xs v.toNat k)) := by
  unfold putN putB
  cases hk : wid k with
  | false => exact put_no Q A n c xs v k hk w h hn
  | true =>
    rcases wid_iff.1 hk with rfl | rfl | rfl | rfl
    · exact put_1 Q A n c xs v hv0 hv1 w h hn hnc
    · exact put_2 Q A n c xs v hv0 hv1 w h hn hnc
    · exact put_4 Q A n c xs v hv0 hv1 w h hn hnc
    · exact put_8 Q A n c xs v hv0 hv1 w h hn hnc

theorem beB_step (v k m : Nat) (h : m < k) : beB (v / 256 ^ m) (k - m) = beB (v / 256 ^ (m + 1)) (k - (m + 1)) ++ [UInt8.ofNat (v / 256 ^ m)] := by
  obtain ⟨d, rfl⟩ : ∃ d, k = m + 1 + d := ⟨k - (m + 1), by omega⟩
  have e1 : m + 1 + d - m = d + 1 := by omega
  have e2 : m + 1 + d - (m + 1) = d := by omega
  rw [e1, e2, beB, Nat.div_div_eq_div_mul, Nat.pow_succ]

theorem By.one {w : World} {Q : Nat → Prop} {x : Int} {b : UInt8} (t : TypeId) (hQ : Q w.heap.size) (h : u8 b = .int .u8 x) : By (w.alloc (.cells #[.int .u8 x] t)) Q (some ⟨w.heap.size, 0, none⟩) 1 [b] := by
  refine ⟨rfl, fun _ => ⟨_, _, rfl, hQ, fun j u hu => ?_⟩⟩
  match j, hu with
  | 0, hu =>
    simp at hu
    subst hu
    rw [cell_of_row _ w.heap.size _ _ _ _ (heap_alloc_new w _), h]
    rfl

theorem byte_shift (v : Int) (h : 0 ≤ v) (m : Nat) : u8 (UInt8.ofNat (v.toNat / 256 ^ m)) = .int .u8 (v / 2 ^ (8 * m) % 256) := by
  obtain ⟨x, rfl⟩ := Int.eq_ofNat_of_zero_le h
  unfold u8
  congr 1
  have e : (2 : Int) ^ (8 * m) = ((256 ^ m : Nat) : Int) := by
    have e1 : (256 : Nat) ^ m = 2 ^ (8 * m) := by rw [Nat.pow_mul]
    rw [e1]
    simp
  rw [e]
  simp

set_option maxHeartbeats 1000000 in
theorem rput_yes (Q : Nat → Prop) (A : Option Addr) (n c : Nat) (xs : List UInt8) (v : Int) (hv0 : 0 ≤ v) (_hv1 : v < 18446744073709551616) (k : Nat) (hk : wid k = true) (w : World) (h : By w Q A n xs) (hn : n ≤ 1099511627776) :
    Calls Tryd.prog 22 #[.slice A n c, .int .u64 v, .int .i64 k] w (Made w (n + k) (xs ++ beB v.toNat k)) := by
  obtain ⟨i0, hi, hz0, hz1, hz2⟩ := info_parts Tryd.info_u8
  have k1 : 1 ≤ k := by have := wid_iff.1 hk; omega
  have k8 : k ≤ 8 := by have := wid_iff.1 hk; omega
  have H : Hid (By w Q A n xs) := h
  clear h
  go_enter Tryd.func22, Tryd.ntmps22
  go_wp2_with (first
    | (go_at_call 38; refine (size_any _ _).mono ?_; rintro e w' ⟨rfl, rfl⟩)
    | (at_builtin; refine wpList_append_by _ rfl (.tmp 9) (.tmp 10) 34 rfl w.heap.size i0 Tryd.underlying34 hi hz0 hz1 hz2 _ 0 [] rfl (World.ownsRow_made w #[] 0 (Nat.le_refl _) (Nat.zero_le _) rfl) Q A n c xs rfl (H.out.alloc _) (by omega) (by simp) ?_; intro v1 w1 hown1 hgrow1 _))
  have hb1 : Below w.heap.size w w1 := ((Below.refl _ w).alloc (Nat.le_refl _) _).grown hgrow1 (by simp) (by intro k hk; simp [Act.eval, Value.ownBlock] at hk; omega)
  clear hgrow1
  go_loopw [7, 8] (fun o i wr => ∃ (j : Nat) (v' : Value), j ≤ k ∧ i = .int .i64 ((j : Int) - 1) ∧ v' = o ∧ wr.ownsRow w.heap.size 5 1 v' (n + (k - j)) (vs (xs ++ beB (v.toNat / 256 ^ j) (k - j))) ∧ Below w.heap.size w wr) (fun _ i _ => (intOf i + 1).toNat)
  case atStart => exact ⟨k, v1, Nat.le_refl _, rfl, rfl, by simpa [beB, vs] using hown1, hb1⟩
  case round =>
    obtain ⟨j, v', hj, rfl, rfl, hown, hb⟩ := hrel
    have O := Lib.hid hown
    clear hown hown1
    rcases j with _ | m
    · go_wp2_with fail
      go_ret
      exact ⟨v', rfl, by simpa using O.out, hb⟩
    · have hbs := hb.size
      go_wp2_with (at_builtin; refine wpList_append_by _ rfl (.tmp 22) (.tmp 29) 34 rfl w.heap.size i0 Tryd.underlying34 hi hz0 hz1 hz2 v' (n + (k - (m + 1))) (vs (xs ++ beB (v.toNat / 256 ^ (m + 1)) (k - (m + 1)))) rfl (O.out.alloc _) (fun _ => True) _ 1 1 [UInt8.ofNat (v.toNat / 256 ^ m)] rfl (By.one _ trivial ?hx) ?h1 ?h2 ?_)
      case hx => exact byte_shift v hv0 m
      case h1 => omega
      case h2 => simp; omega
      intro v2 w2 hown2 hgrow2 _
      have hown3 : w2.ownsRow w.heap.size 5 1 v2 (n + (k - m)) (vs (xs ++ beB (v.toNat / 256 ^ m) (k - m))) := by
        rw [beB_step v.toNat k m (by omega), ← List.append_assoc, ← vs_append]
        have e : n + (k - m) = n + (k - (m + 1)) + 1 := by omega
        rw [e]
        exact hown2
      have hb2 : Below w.heap.size w w2 := (hb.alloc hbs _).grown hgrow2 (by simp; omega) (fun g hg => (O.out.lt g hg).1)
      have O2 := Lib.hid hown3
      clear hown2 hown3 hgrow2
      go_wp2_with fail
      go_roundw
      case rel => exact ⟨m, v2, by omega, by go_num, rfl, O2.out, hb2⟩
      case measure => simp [intOf]

set_option maxHeartbeats 1000000 in
theorem rput_no (Q : Nat → Prop) (A : Option Addr) (n c : Nat) (xs : List UInt8) (v k : Int) (hk : wid k = false) (w : World) (h : By w Q A n xs) (hn : n ≤ 1099511627776) :
    Calls Tryd.prog 22 #[.slice A n c, .int .u64 v, .int .i64 k] w (Made w n xs) := by
  obtain ⟨i0, hi, hz0, hz1, hz2⟩ := info_parts Tryd.info_u8
  have H : Hid (By w Q A n xs) := h
  clear h
  go_enter Tryd.func22, Tryd.ntmps22
  go_wp2_with (first
    | (go_at_call 38; refine (size_any _ _).mono ?_; rintro e w' ⟨rfl, rfl⟩)
    | (at_builtin; refine wpList_append_by _ rfl (.tmp 9) (.tmp 10) 34 rfl w.heap.size i0 Tryd.underlying34 hi hz0 hz1 hz2 _ 0 [] rfl (World.ownsRow_made w #[] 0 (Nat.le_refl _) (Nat.zero_le _) rfl) Q A n c xs rfl (H.out.alloc _) (by omega) (by simp) ?_; intro v1 w1 hown1 hgrow1 _))
  have hb1 : Below w.heap.size w w1 := ((Below.refl _ w).alloc (Nat.le_refl _) _).grown hgrow1 (by simp) (by intro k hk; simp [Act.eval, Value.ownBlock] at hk; omega)
  clear hgrow1
  go_wp2
  go_ret
  exact ⟨v1, rfl, by simpa using hown1, hb1⟩

/-- PUT AND THE DOCUMENT's: one number's bytes. -/
theorem rput_any (Q : Nat → Prop) (A : Option Addr) (n c : Nat) (xs : List UInt8) (v k : Int) (hv0 : 0 ≤ v) (hv1 : v < 18446744073709551616) (w : World) (h : By w Q A n xs) (hn : n ≤ 1099511627776) :
    Calls Tryd.prog 22 #[.slice A n c, .int .u64 v, .int .i64 k] w (Made w (putN n k) (putB xs v.toNat k)) := by
  unfold putN putB
  cases hk : wid k with
  | false => exact rput_no Q A n c xs v k hk w h hn
  | true =>
    have h0 : 0 ≤ k := by have := wid_iff.1 hk; omega
    obtain ⟨j, rfl⟩ := Int.eq_ofNat_of_zero_le h0
    exact rput_yes Q A n c xs v hv0 hv1 j hk w h hn

set_option maxHeartbeats 1000000 in
theorem row_any (Q : Nat → Prop) (A : Option Addr) (n c : Nat) (xs : List UInt8) (Q2 : Nat → Prop) (B : Option Addr) (m d : Nat) (ys : List UInt8) (w : World) (h : By w Q A n xs) (h2 : By w Q2 B m ys) (hn : n ≤ 1099511627776) (hm : m ≤ 1099511627776) (hnc : n ≤ c) :
    Calls Tryd.prog 44 #[.slice A n c, .slice B m d] w (Made w (n + 4 + m) (xs ++ beB m 4 ++ ys)) := by
  obtain ⟨i0, hi, hz0, hz1, hz2⟩ := info_parts Tryd.info_u8
  have H := Lib.hid h
  have H2 := Lib.hid h2
  clear h h2
  have C : ∀ W : World, By W Q A n xs → Calls Tryd.prog 21 #[.slice A n c, .int .u64 (m : Int), .int .i64 4] W (Made W (n + 4) (xs ++ beB m 4)) := fun W hW => by
    have := put_any Q A n c xs (m : Int) 4 (by omega) (by omega) W hW hn hnc
    simpa [putN, putB, wid] using this
  have CH := Lib.hid C
  clear C
  go_enter Tryd.func44, Tryd.ntmps44
  go_wp2_with (first
    | (go_at_call 21; refine (CH.out _ H.out).mono ?_; rintro e w1 ⟨v1, rfl, hown1, hb1⟩; have O1 := Lib.hid hown1; clear hown1)
    | (at_builtin; refine wpList_append_by _ rfl (.tmp 9) (.tmp 10) 34 rfl w.heap.size i0 Tryd.underlying34 hi hz0 hz1 hz2 v1 (n + 4) (vs (xs ++ beB m 4)) rfl O1.out Q2 B m d ys rfl (H2.out.through hb1) (by omega) hb1.size ?_; intro v2 w2 hown2 hgrow2 _))
  go_wp2
  go_ret
  exact ⟨v2, rfl, by rw [← vs_append]; exact hown2, hb1.grown hgrow2 hb1.size (fun g hg => (O1.out.lt g hg).1)⟩

set_option maxHeartbeats 1000000 in
theorem rrow_any (Q : Nat → Prop) (A : Option Addr) (n c : Nat) (xs : List UInt8) (Q2 : Nat → Prop) (B : Option Addr) (m d : Nat) (ys : List UInt8) (w : World) (h : By w Q A n xs) (h2 : By w Q2 B m ys) (hn : n ≤ 1099511627776) (hm : m ≤ 1099511627776) :
    Calls Tryd.prog 23 #[.slice A n c, .slice B m d] w (Made w (n + 4 + m) (xs ++ beB m 4 ++ ys)) := by
  obtain ⟨i0, hi, hz0, hz1, hz2⟩ := info_parts Tryd.info_u8
  have H := Lib.hid h
  have H2 := Lib.hid h2
  clear h h2
  have C : ∀ W : World, By W Q A n xs → Calls Tryd.prog 22 #[.slice A n c, .int .u64 (m : Int), .int .i64 4] W (Made W (n + 4) (xs ++ beB m 4)) := fun W hW => by
    have := rput_any Q A n c xs (m : Int) 4 (by omega) (by omega) W hW hn
    simpa [putN, putB, wid] using this
  have CH := Lib.hid C
  clear C
  go_enter Tryd.func23, Tryd.ntmps23
  go_wp2_with (first
    | (go_at_call 22; refine (CH.out _ H.out).mono ?_; rintro e w1 ⟨v1, rfl, hown1, hb1⟩; have O1 := Lib.hid hown1; clear hown1)
    | (at_builtin; refine wpList_append_by _ rfl (.tmp 9) (.tmp 10) 34 rfl w.heap.size i0 Tryd.underlying34 hi hz0 hz1 hz2 v1 (n + 4) (vs (xs ++ beB m 4)) rfl O1.out Q2 B m d ys rfl (H2.out.through hb1) (by omega) hb1.size ?_; intro v2 w2 hown2 hgrow2 _))
  go_wp2
  go_ret
  exact ⟨v2, rfl, by rw [← vs_append]; exact hown2, hb1.grown hgrow2 hb1.size (fun g hg => (O1.out.lt g hg).1)⟩
end

section
open Go.RowKit
variable {Q : Nat → Prop}

/-- Block g is a reader of type t: what is left reads as xs (as long as nothing failed), the failure is er. -/
def RS (Q : Nat → Prop) (w : World) (g : Nat) (t : TypeId) (xs : List UInt8) (er : Int) : Prop :=
  ∃ A n c, w.heap[g]? = some (.cells #[.slice A n c, .int .i64 er] t (0, 0)) ∧ n ≤ c ∧ c ≤ maxLen ∧ (er = 0 → By w Q A n xs)

section
variable {Q : Nat → Prop} {w w' : World} {g : Nat} {t : TypeId} {xs : List UInt8} {er : Int}
/-- Bytes don't lie in a reader's block: they stay as they are when it is turned. -/
theorem By.only {A A0 : Option Addr} {n n0 c0 : Nat} {e0 : Int} {fz : Nat × Nat} (h : By w Q A n xs) (hg : w.grownBy w' (some g)) (hw : w.heap[g]? = some (.cells #[.slice A0 n0 c0, .int .i64 e0] t fz)) : By w' Q A n xs :=
  ⟨h.1, fun hn => by
    obtain ⟨b, o, e, hq, hc⟩ := h.2 hn
    refine ⟨b, o, e, hq, fun j u hu => hg.cell (hc j u hu) (fun e2 => ?_)⟩
    have e3 : b = g := Option.some.inj e2
    subst e3
    have h1 := hc j u hu
    rw [cell_of_row w b (o + j) _ t fz hw] at h1
    match hj : o + j with
    | 0 => rw [hj] at h1; simp [u8] at h1
    | 1 => rw [hj] at h1; simp [u8] at h1
    | j' + 2 => rw [hj] at h1; simp at h1⟩
theorem RS.lt (h : RS Q w g t xs er) : g < w.heap.size := by
  obtain ⟨A, n, c, hc, _⟩ := h
  exact (Array.getElem?_eq_some_iff.1 hc).1
/-- Another block is turned, that isn't bytes of its own: a reader's. -/
theorem RS.keep {g' : Nat} {ys : List UInt8} {e' : Int} {t' : TypeId} {Q' : Nat → Prop} (h : RS Q w g t xs er) (hg : w.grownBy w' (some g')) (h' : RS Q' w g' t' ys e') (hne : g ≠ g') : RS Q w' g t xs er := by
  obtain ⟨A, n, c, hc, hn, hm, hb⟩ := h
  obtain ⟨A', n', c', hc', _⟩ := h'
  exact ⟨A, n, c, (hg.block g (Array.getElem?_eq_some_iff.1 hc).1 (fun e => hne (Option.some.inj e))).trans hc, hn, hm, fun h0 => (hb h0).only hg hc'⟩
/-- Behind a call that makes memory alone. -/
theorem RS.below (h : RS Q w g t xs er) (hb : Below w.heap.size w w') : RS Q w' g t xs er := by
  obtain ⟨A, n, c, hc, hn, hm, hy⟩ := h
  exact ⟨A, n, c, (hb.block g (Array.getElem?_eq_some_iff.1 hc).1).trans hc, hn, hm, fun h0 => (hy h0).through hb⟩
/-- A block is turned that isn't the reader's, and none of the bytes'. -/
theorem RS.other {row : Option Nat} (h : RS Q w g t xs er) (hg : w.grownBy w' row) (hr : ∀ b, row = some b → b ≠ g ∧ ¬ Q b) : RS Q w' g t xs er := by
  obtain ⟨A, n, c, hc, hn, hm, hb⟩ := h
  refine ⟨A, n, c, (hg.block g (Array.getElem?_eq_some_iff.1 hc).1 (fun e => (hr g e.symm).1 rfl)).trans hc, hn, hm, fun h0 => ⟨(hb h0).1, fun hn => ?_⟩⟩
  obtain ⟨b, o, e, hq, hc1⟩ := (hb h0).2 hn
  exact ⟨b, o, e, hq, fun j u hu => hg.cell (hc1 j u hu) (fun e2 => (hr b e2.symm).2 hq)⟩
theorem RS.block (h : RS Q w g t xs er) : ∃ cs, w.heap[g]? = some (.cells cs t (0, 0)) := by
  obtain ⟨A, n, c, hc, _⟩ := h
  exact ⟨_, hc⟩
/-- Both cells of a reader, written. -/
theorem heap_set {w : World} {g : Nat} {t : TypeId} {cs : Array Value} (h : w.heap[g]? = some (.cells cs t (0, 0))) (i : Nat) (u : Value) : (w.setCell ⟨g, i, none⟩ u).heap[g]? = some (.cells (cs.setIfInBounds i u) t (0, 0)) := by
  simp [World.setCell, Array.getElem?_modify, h]
end


/-- A call on a reader that hands back bytes. -/
def Gave (Q : Nat → Prop) (w : World) (g : Nat) (t : TypeId) (ys xs' : List UInt8) (er' : Int) (e : Ending) (w' : World) : Prop :=
  ∃ B m c, e = .returned (.slice B m c) ∧ m ≤ c ∧ By w' (fun _ => True) B m ys ∧ RS Q w' g t xs' er' ∧ w.grownBy w' (some g)

/-- A call on a reader that hands back v. -/
def GaveV (Q : Nat → Prop) (w : World) (g : Nat) (t : TypeId) (v : Value) (xs' : List UInt8) (er' : Int) (e : Ending) (w' : World) : Prop :=
  e = .returned v ∧ RS Q w' g t xs' er' ∧ w.grownBy w' (some g)

abbrev tR : TypeId := 80

set_option maxHeartbeats 400000 in
theorem failed_any (g : Nat) (x : Value) (er : Int) (w : World) (hw : w.heap[g]? = some (.cells #[x, .int .i64 er] tR (0, 0))) :
    Calls Tryd.prog 51 #[.pointer (some ⟨g, 0, none⟩)] w fun e w' => e = .returned (.bool (bad er)) ∧ w = w' := by
  have h1 : w.cell? ⟨g, 1, none⟩ = some (.int .i64 er) := by rw [cell_of_row w g 1 _ _ _ hw]; rfl
  clear hw
  go_enter Tryd.func51, Tryd.ntmps51
  go_wp2
  go_ret
  exact ⟨rfl, rfl⟩

set_option maxHeartbeats 400000 in
theorem failed_nil (w : World) :
    Calls Tryd.prog 51 #[.pointer none] w fun e w' => e = .returned (.bool true) ∧ w = w' := by
  go_enter Tryd.func51, Tryd.ntmps51
  go_wp2
  go_ret
  exact ⟨rfl, rfl⟩

set_option maxHeartbeats 400000 in
theorem fail_yes (g : Nat) (x : Value) (er k : Int) (he : er ≠ 0) (w : World) (hw : w.heap[g]? = some (.cells #[x, .int .i64 er] tR (0, 0))) :
    Calls Tryd.prog 40 #[.pointer (some ⟨g, 0, none⟩), .int .i64 k] w fun e w' => e = .returned (.tuple #[]) ∧ w = w' := by
  have hb : bad er = true := by simpa [bad] using he
  have H := Lib.hid hw
  clear hw
  go_enter Tryd.func40, Tryd.ntmps40
  go_wp2_with (go_at_call 51; refine (failed_any g x er _ H.out).mono ?_; rintro e w' ⟨rfl, rfl⟩)
  refine bodyPost_ret (results_none rfl _ _ _) rfl ?_
  exact ⟨rfl, rfl⟩

set_option maxHeartbeats 400000 in
theorem fail_no (g : Nat) (x : Value) (k : Int) (w : World) (hw : w.heap[g]? = some (.cells #[x, .int .i64 0] tR (0, 0))) :
    Calls Tryd.prog 40 #[.pointer (some ⟨g, 0, none⟩), .int .i64 k] w fun e w' => e = .returned (.tuple #[]) ∧ w' = (w.setCell ⟨g, 1, none⟩ (.int .i64 k)).setCell ⟨g, 0, none⟩ (.slice none 0 0) := by
  have hb : bad 0 = false := rfl
  have h0 : w.cell? ⟨g, 0, none⟩ = some x := by rw [cell_of_row w g 0 _ _ _ hw]; rfl
  have h1 : w.cell? ⟨g, 1, none⟩ = some (.int .i64 0) := by rw [cell_of_row w g 1 _ _ _ hw]; rfl
  have f0 : w.frozen? ⟨g, 0, none⟩ = false := frozen_of_row w g 0 _ _ hw
  have f1 : w.frozen? ⟨g, 1, none⟩ = false := frozen_of_row w g 1 _ _ hw
  have H := Lib.hid hw
  clear hw
  go_enter Tryd.func40, Tryd.ntmps40
  go_wp2_with (go_at_call 51; refine (failed_any g x 0 _ H.out).mono ?_; rintro e w' ⟨rfl, rfl⟩)
  go_end0
  exact ⟨rfl, rfl⟩

theorem RS.failed {w : World} {g : Nat} {t : TypeId} {x y : Value} (h : w.heap[g]? = some (.cells #[x, y] t (0, 0))) (k : Int) (hk : k ≠ 0) :
    RS Q ((w.setCell ⟨g, 1, none⟩ (.int .i64 k)).setCell ⟨g, 0, none⟩ (.slice none 0 0)) g t [] k ∧ w.grownBy ((w.setCell ⟨g, 1, none⟩ (.int .i64 k)).setCell ⟨g, 0, none⟩ (.slice none 0 0)) (some g) :=
  ⟨⟨none, 0, 0, by rw [heap_set (heap_set h 1 _) 0 _]; rfl, Nat.le_refl _, Nat.zero_le _, fun h0 => absurd h0 hk⟩, only_trans (only_set w g 1 _) (only_set _ g 0 _)⟩

theorem took {w : World} {g n c k : Nat} {t : TypeId} (_ : t ≠ 5) {xs : List UInt8} {A A' : Option Addr} (hw : w.heap[g]? = some (.cells #[.slice A n c, .int .i64 0] t (0, 0))) (hy : By w Q A n xs) (hl : k ≤ n) (hn : n ≤ c) (hm : c ≤ maxLen)
    (hA : A' = if c = k then A else A.map (·.add k)) :
    By (w.setCell ⟨g, 0, none⟩ (.slice A' (n - k) (c - k))) (fun _ => True) A k (xs.take k) ∧
    RS Q (w.setCell ⟨g, 0, none⟩ (.slice A' (n - k) (c - k))) g t (xs.drop k) 0 ∧ w.grownBy (w.setCell ⟨g, 0, none⟩ (.slice A' (n - k) (c - k))) (some g) := by
  have hg := only_set w g 0 (.slice A' (n - k) (c - k))
  refine ⟨((hy.take hl).only hg hw).weak fun _ _ => trivial, ⟨A', n - k, c - k, by rw [heap_set hw]; rfl, by omega, by omega, fun _ => ?_⟩, hg⟩
  rw [hA]
  rw [hA] at hg
  exact (hy.drop hl hn).only hg hw

set_option maxHeartbeats 1000000 in
theorem take_bad (g : Nat) (xs : List UInt8) (er k : Int) (he : er ≠ 0) (w : World) (h : RS Q w g tR xs er) :
    Calls Tryd.prog 41 #[.pointer (some ⟨g, 0, none⟩), .int .i64 k] w (Gave Q w g tR [] xs er) := by
  obtain ⟨A, n, c, hw, hn, hm, hy⟩ := id h
  have hb : bad er = true := by simpa [bad] using he
  have HW := Lib.hid hw
  have H := Lib.hid h
  clear hw h hy
  go_enter Tryd.func41, Tryd.ntmps41
  go_wp2_with (first
    | (go_at_call 51; refine (failed_any g _ er _ HW.out).mono ?_; rintro e w' ⟨rfl, rfl⟩)
    | (go_at_call 40; refine (fail_yes g _ er 2 he _ HW.out).mono ?_; rintro e w' ⟨rfl, rfl⟩))
  go_ret
  exact ⟨none, 0, 0, rfl, Nat.le_refl _, By.none_, H.out, only_refl _ _⟩

set_option maxHeartbeats 1000000 in
theorem take_out (g : Nat) (xs : List UInt8) (k : Int) (hk : ¬ (0 ≤ k ∧ k ≤ xs.length)) (w : World) (h : RS Q w g tR xs 0) :
    Calls Tryd.prog 41 #[.pointer (some ⟨g, 0, none⟩), .int .i64 k] w (Gave Q w g tR [] [] 2) := by
  obtain ⟨A, n, c, hw, hn, hm, hy⟩ := h
  have hl := (hy rfl).len
  have hb : bad 0 = false := rfl
  have h0 : w.cell? ⟨g, 0, none⟩ = some (.slice A n c) := by rw [cell_of_row w g 0 _ _ _ hw]; rfl
  have HW := Lib.hid hw
  clear hw hy
  by_cases hneg : k < 0
  · clear hk
    go_enter Tryd.func41, Tryd.ntmps41
    go_wp2_with (first
      | (go_at_call 51; refine (failed_any g _ 0 _ HW.out).mono ?_; rintro e w' ⟨rfl, rfl⟩)
      | (go_at_call 40; refine (fail_no g _ 2 _ HW.out).mono ?_; rintro e w' ⟨rfl, rfl⟩))
    go_ret
    exact ⟨none, 0, 0, rfl, Nat.le_refl _, By.none_, RS.failed (Q := Q) HW.out 2 (by decide)⟩
  · have hgt : (n : Int) < k := by omega
    have hge : 0 ≤ k := by omega
    clear hk hneg hl
    go_enter Tryd.func41, Tryd.ntmps41
    go_wp2_with (first
      | (go_at_call 51; refine (failed_any g _ 0 _ HW.out).mono ?_; rintro e w' ⟨rfl, rfl⟩)
      | (go_at_call 40; refine (fail_no g _ 2 _ HW.out).mono ?_; rintro e w' ⟨rfl, rfl⟩))
    go_ret
    exact ⟨none, 0, 0, rfl, Nat.le_refl _, By.none_, RS.failed (Q := Q) HW.out 2 (by decide)⟩

set_option maxHeartbeats 1000000 in
theorem take_in (g : Nat) (xs : List UInt8) (k : Nat) (hk : k ≤ xs.length) (w : World) (h : RS Q w g tR xs 0) :
    Calls Tryd.prog 41 #[.pointer (some ⟨g, 0, none⟩), .int .i64 k] w (Gave Q w g tR (xs.take k) (xs.drop k) 0) := by
  obtain ⟨A, n, c, hw, hn, hm, hy⟩ := h
  have HY := Lib.hid (hy rfl)
  have hl : k ≤ n := by rw [← HY.out.len]; exact hk
  have hb : bad 0 = false := rfl
  have h0 : w.cell? ⟨g, 0, none⟩ = some (.slice A n c) := by rw [cell_of_row w g 0 _ _ _ hw]; rfl
  have f0 : w.frozen? ⟨g, 0, none⟩ = false := frozen_of_row w g 0 _ _ hw
  have HW := Lib.hid hw
  clear hw hy hk
  go_enter Tryd.func41, Tryd.ntmps41
  go_wp2_with (first
    | (go_at_call 51; refine (failed_any g _ 0 _ HW.out).mono ?_; rintro e w' ⟨rfl, rfl⟩))
  · have ec : c = k := by assumption
    go_ret
    have T := took (k := k) (t := tR) (by decide) HW.out HY.out hl hn hm (A' := A) (by rw [if_pos ec])
    have e0 : c - k = 0 := by omega
    rw [e0] at T
    exact ⟨A, k, k, rfl, Nat.le_refl _, T⟩
  · go_ret
    exact ⟨A, k, c, rfl, by omega, took (t := tR) (by decide) HW.out HY.out hl hn hm (by rw [if_neg ‹_›])⟩

/-- TAKE, OF WHATEVER READER AND NUMBER. -/
theorem take_any (g : Nat) (xs : List UInt8) (er k : Int) (w : World) (h : RS Q w g tR xs er) :
    Calls Tryd.prog 41 #[.pointer (some ⟨g, 0, none⟩), .int .i64 k] w (Gave Q w g tR (takeY xs er k) (takeX xs er k) (takeE xs er k)) := by
  unfold takeY takeX takeE
  by_cases he : er = 0
  · subst he
    by_cases hk : 0 ≤ k ∧ k ≤ xs.length
    · obtain ⟨j, rfl⟩ := Int.eq_ofNat_of_zero_le hk.1
      simp only [if_true, hk, and_self]
      exact take_in g xs j (by omega) w h
    · simp only [true_and, if_true, if_neg hk]
      exact take_out g xs k hk w h
  · simp only [he, false_and, if_false]
    exact take_bad g xs er k he w h

theorem or_step (x : Nat) (b : UInt8) (hx : x * 256 + b.toNat < 256 ^ 8) :
    bits .or .u64 (IntKind.u64.wrap ((x : Int) * 256)) (IntKind.u64.wrap (b.toNat : Int)) = ((x * 256 + b.toNat : Nat) : Int) := by
  have hb := b.toNat_lt
  have h8 : (256 : Nat) ^ 8 = 18446744073709551616 := by decide
  rw [h8] at hx
  have e1 : IntKind.u64.wrap ((x : Int) * 256) = ((2 ^ 8 * x : Nat) : Int) := by
    rw [IntWalk.u64_in _ (by omega)]; omega
  have e2 : IntKind.u64.wrap (b.toNat : Int) = (b.toNat : Int) := IntWalk.u64_in _ (by omega)
  rw [e1, e2, u64_or_nat _ _ (by omega) (by omega), ← Nat.two_pow_add_eq_or_of_lt (by omega)]
  congr 1
  omega

set_option maxHeartbeats 1000000 in
theorem number_yes (g : Nat) (xs : List UInt8) (er : Int) (k : Nat) (hk : wid k = true) (w : World) (h : RS Q w g tR xs er) :
    Calls Tryd.prog 27 #[.pointer (some ⟨g, 0, none⟩), .int .i64 k] w
      (GaveV Q w g tR (.int .u64 (beN (takeY xs er k))) (takeX xs er k) (takeE xs er k)) := by
  have k8 : k ≤ 8 := by have := wid_iff.1 hk; omega
  have H := Lib.hid h
  clear h
  go_enter Tryd.func27, Tryd.ntmps27
  go_wp2_with (first
    | (go_at_call 37; refine (isWidth_any _ _).mono ?_; rintro e w' ⟨rfl, rfl⟩)
    | (go_at_call 41; refine (take_any g xs er k _ H.out).mono ?_; rintro e w1 ⟨B, m, c, rfl, hmc, hy, hr, ho⟩))
  have HY := Lib.hid hy
  have HR := Lib.hid hr
  have HO := Lib.hid ho
  have hm : m ≤ 8 := by
    have := hy.len
    have e : (takeY xs er k).length ≤ k := by unfold takeY; split <;> simp; omega
    omega
  clear hy hr ho
  generalize takeY xs er k = ys at *
  have hml : ys.length = m := HY.out.len
  have HL := Lib.hid hml
  clear hml
  go_loop [5, 17] (fun v i => ∃ j : Nat, j ≤ m ∧ i = .int .i64 j ∧ v = .int .u64 (beN (ys.take j))) (fun _ i => m - (intOf i).toNat)
  case atStart => exact ⟨0, Nat.zero_le _, rfl, rfl⟩
  case round =>
    obtain ⟨j, hj, rfl, rfl⟩ := hrel
    by_cases hlt : j < m
    · obtain ⟨gb, o, rfl, hc⟩ := HY.out.cell j (by rw [HL.out]; exact hlt)
      unfold u8 at hc
      go_wp2
      go_round
      case rel =>
        refine ⟨j + 1, by omega, by go_num, ?_⟩
        have hb1 := beN_small ys (j + 1) 8 (by omega)
        have hjl : j < ys.length := by rw [HL.out]; exact hlt
        rw [beN_take ys j hjl] at hb1 ⊢
        rw [or_step _ _ (by omega)]
      case measure => simp [intOf]; omega
    · go_wp2
      go_ret
      have e : ys.take j = ys := List.take_of_length_le (by rw [HL.out]; omega)
      exact ⟨by rw [e]; rfl, HR.out, HO.out⟩

set_option maxHeartbeats 1000000 in
theorem number_no (g : Nat) (xs : List UInt8) (er : Int) (k : Int) (hk : wid k = false) (w : World) (h : RS Q w g tR xs er) :
    Calls Tryd.prog 27 #[.pointer (some ⟨g, 0, none⟩), .int .i64 k] w (GaveV Q w g tR (.int .u64 0) (failX xs er) (failE er 2)) := by
  obtain ⟨A, n, c, hw, hn, hm, hy⟩ := id h
  have HW := Lib.hid hw
  have H := Lib.hid h
  clear hw h hy
  by_cases he : er = 0
  · subst he
    go_enter Tryd.func27, Tryd.ntmps27
    go_wp2_with (first
      | (go_at_call 37; refine (isWidth_any _ _).mono ?_; rintro e w' ⟨rfl, rfl⟩)
      | (go_at_call 40; refine (fail_no g _ 2 _ HW.out).mono ?_; rintro e w' ⟨rfl, rfl⟩))
    go_ret
    exact ⟨rfl, RS.failed (Q := Q) HW.out 2 (by decide)⟩
  · have hx : failX xs er = xs := by simp [failX, he]
    have hf : failE er 2 = er := by simp [failE, he]
    rw [hx, hf]
    clear hx hf
    go_enter Tryd.func27, Tryd.ntmps27
    go_wp2_with (first
      | (go_at_call 37; refine (isWidth_any _ _).mono ?_; rintro e w' ⟨rfl, rfl⟩)
      | (go_at_call 40; refine (fail_yes g _ er 2 he _ HW.out).mono ?_; rintro e w' ⟨rfl, rfl⟩))
    go_ret
    exact ⟨rfl, H.out, only_refl _ _⟩

/-- NUMBER, OF WHATEVER READER, WHATEVER WIDTH. -/
theorem number_any (g : Nat) (xs : List UInt8) (er k : Int) (w : World) (h : RS Q w g tR xs er) :
    Calls Tryd.prog 27 #[.pointer (some ⟨g, 0, none⟩), .int .i64 k] w (GaveV Q w g tR (.int .u64 (numV xs er k)) (numX xs er k) (numE xs er k)) := by
  unfold numV numX numE
  cases hk : wid k with
  | false => exact number_no g xs er k hk w h
  | true =>
    have h0 : 0 ≤ k := by have := wid_iff.1 hk; omega
    obtain ⟨j, rfl⟩ := Int.eq_ofNat_of_zero_le h0
    exact number_yes g xs er j hk w h

theorem fail_any (g : Nat) (xs : List UInt8) (er k : Int) (hk : k ≠ 0) (w : World) (h : RS Q w g tR xs er) :
    Calls Tryd.prog 40 #[.pointer (some ⟨g, 0, none⟩), .int .i64 k] w fun e w' => e = .returned (.tuple #[]) ∧ RS Q w' g tR (failX xs er) (failE er k) ∧ w.grownBy w' (some g) := by
  obtain ⟨A, n, c, hw, hn, hm, hy⟩ := id h
  by_cases he : er = 0
  · subst he
    refine (fail_no g _ k w hw).mono ?_
    rintro e w' ⟨rfl, rfl⟩
    exact ⟨rfl, RS.failed (Q := Q) hw k hk⟩
  · refine (fail_yes g _ er k he w hw).mono ?_
    rintro e w' ⟨rfl, rfl⟩
    have e1 : failX xs er = xs := if_neg he
    have e2 : failE er k = er := if_neg he
    rw [e1, e2]
    exact ⟨rfl, h, only_refl _ _⟩

theorem Gave.of_made {w w1 : World} {g : Nat} {xs xs' : List UInt8} {er' : Int} {n : Nat} {v : Value} {w2 : World} (ho : w.grownBy w1 (some g)) (hr : RS Q w1 g tR xs' er') (hown : w2.ownsRow w1.heap.size 5 1 v n (vs xs)) (hb : Below w1.heap.size w1 w2) :
    Gave Q w g tR xs xs' er' (.returned v) w2 := by
  obtain ⟨A, c, rfl, hc, _⟩ := own_form hown
  exact ⟨A, n, c, rfl, hc, (By.of_own hown).weak fun _ _ => trivial, hr.below hb, only_trans ho (only_below hb)⟩

set_option maxHeartbeats 1000000 in
theorem upTo_any (g : Nat) (xs : List UInt8) (er k most b : Int) (hk : k = 2 ∨ k = 4) (hb : b ≠ 0) (w : World) (h : RS Q w g tR xs er) :
    Calls Tryd.prog 52 #[.pointer (some ⟨g, 0, none⟩), .int .i64 k, .int .i64 most, .int .i64 b] w
      (GaveV Q w g tR (.int .i64 (upV (numV xs er k) most)) (upX (numX xs er k) (numE xs er k) (numV xs er k) most) (upE (numE xs er k) (numV xs er k) most b)) := by
  have hV : numV xs er k < 4294967296 := by
    rcases numV_lt xs er k with h | h
    · rcases hk with rfl | rfl
      · have e : (256 : Nat) ^ ((2 : Int)).toNat = 65536 := by decide
        omega
      · have e : (256 : Nat) ^ ((4 : Int)).toNat = 4294967296 := by decide
        omega
    · omega
  have hcon := number_any g xs er k w h
  generalize numV xs er k = V at *
  generalize numX xs er k = X at *
  generalize numE xs er k = E at *
  unfold upV upX upE
  clear h hk
  by_cases hlt : most < V
  · simp only [if_pos hlt]
    go_enter Tryd.func52, Tryd.ntmps52
    go_wp2_with (first
      | (go_at_call 27; refine hcon.mono ?_; rintro e w1 ⟨rfl, hr, ho⟩; have HR := Lib.hid hr; have HO := Lib.hid ho; clear hr ho)
      | (go_at_call 40; refine (fail_any g X E b hb _ HR.out).mono ?_; rintro e w2 ⟨rfl, hr2, ho2⟩))
    go_ret
    exact ⟨rfl, hr2, only_trans HO.out ho2⟩
  · simp only [if_neg hlt]
    go_enter Tryd.func52, Tryd.ntmps52
    go_wp2_with (first
      | (go_at_call 27; refine hcon.mono ?_; rintro e w1 ⟨rfl, hr, ho⟩; have HR := Lib.hid hr; have HO := Lib.hid ho; clear hr ho))
    go_ret
    exact ⟨rfl, HR.out, HO.out⟩

set_option maxHeartbeats 1000000 in
theorem rowm_any (g : Nat) (xs : List UInt8) (er most : Int) (hx : xs.length ≤ 1099511627776) (w : World) (h : RS Q w g tR xs er) :
    Calls Tryd.prog 43 #[.pointer (some ⟨g, 0, none⟩), .int .i64 most] w (Gave Q w g tR (rowY xs er most) (rowX xs er most) (rowE xs er most)) := by
  unfold rowY rowX rowE
  have hcon := upTo_any g xs er 4 most 3 (.inr rfl) (by decide) w h
  have hl := Nat.le_trans (upX_le (numX xs er 4) (numE xs er 4) (numV xs er 4) most) (Nat.le_trans (numX_le xs er 4) hx)
  generalize upX (numX xs er 4) (numE xs er 4) (numV xs er 4) most = X at *
  generalize upE (numE xs er 4) (numV xs er 4) most 3 = E at *
  generalize upV (numV xs er 4) most = V at *
  have hl2 := Nat.le_trans (takeY_le X E V) hl
  clear h
  go_enter Tryd.func43, Tryd.ntmps43
  go_wp2_with (first
    | (go_at_call 52; refine hcon.mono ?_; rintro e w0 ⟨rfl, hr, ho⟩; have HR0 := Lib.hid hr; have HO0 := Lib.hid ho; clear hr ho)
    | (go_at_call 41; refine (take_any g X E V _ HR0.out).mono ?_; rintro e w1 ⟨B, m, c, rfl, hmc, hy, hr, ho⟩; have HY := Lib.hid hy; have HR := Lib.hid hr; have HO := Lib.hid ho; clear hy hr ho)
    | (go_at_call 17; refine (clone_any _ B m c _ _ HY.out (by have := HY.out.len; omega)).mono ?_; rintro e w2 ⟨v2, rfl, hown, hb⟩))
  go_ret
  exact Gave.of_made (only_trans HO0.out HO.out) HR.out hown hb

set_option maxHeartbeats 1000000 in
theorem end_any (g : Nat) (xs : List UInt8) (er : Int) (w : World) (h : RS Q w g tR xs er) :
    Calls Tryd.prog 31 #[.pointer (some ⟨g, 0, none⟩)] w fun e w' => e = .returned (.int .i64 (endV xs er)) ∧ w = w' := by
  obtain ⟨A, n, c, hw, hn, hm, hy⟩ := h
  have h0 : w.cell? ⟨g, 0, none⟩ = some (.slice A n c) := by rw [cell_of_row w g 0 _ _ _ hw]; rfl
  have h1 : w.cell? ⟨g, 1, none⟩ = some (.int .i64 er) := by rw [cell_of_row w g 1 _ _ _ hw]; rfl
  unfold endV
  by_cases he : er = 0
  · have hl := (hy he).len
    subst he
    clear hw hy
    by_cases hn0 : n = 0
    · subst hn0
      obtain rfl : xs = [] := List.eq_nil_of_length_eq_zero hl
      clear hl
      go_enter Tryd.func31, Tryd.ntmps31
      go_wp2
      go_ret
      exact ⟨rfl, rfl⟩
    · have hpos : 0 < n := by omega
      have hne : xs ≠ [] := by rintro rfl; simp at hl; omega
      simp only [if_true, if_neg hne]
      clear hl hn0 hne
      go_enter Tryd.func31, Tryd.ntmps31
      go_wp2
      go_ret
      exact ⟨rfl, rfl⟩
  · simp only [if_neg he]
    have hb : (er != 0) = true := by simpa using he
    clear hw hy
    go_enter Tryd.func31, Tryd.ntmps31
    go_wp2
    go_ret
    exact ⟨rfl, rfl⟩

theorem RS.new {w : World} {base n c : Nat} {B : Option Addr} {xs : List UInt8} (t : TypeId) (h : w.ownsRow base 5 1 (.slice B n c) n (vs xs)) :
    RS (fun b => base ≤ b) (w.alloc (.cells #[.slice B n c, .int .i64 0] t)) w.heap.size t xs 0 := by
  obtain ⟨B', c', e, hn, hm, _⟩ := own_form h
  injection e with _ _ ec
  subst ec
  exact ⟨B, n, c, heap_alloc_new w _, hn, hm, fun _ => ((By.of_own h).alloc _).weak fun _ hb => hb.1⟩

set_option maxHeartbeats 1000000 in
theorem read_any (Q : Nat → Prop) (A : Option Addr) (n c : Nat) (xs : List UInt8) (w : World) (h : By w Q A n xs) (hn : n ≤ 1099511627776) :
    Calls Tryd.prog 26 #[.slice A n c] w fun e w' => ∃ g, e = .returned (.pointer (some ⟨g, 0, none⟩)) ∧ RS (fun b => w.heap.size ≤ b) w' g tR xs 0 ∧ Below w.heap.size w w' ∧ w.heap.size ≤ g := by
  have H := Lib.hid h
  clear h
  go_enter Tryd.func26, Tryd.ntmps26
  go_wp2_with (go_at_call 17; refine (clone_any Q A n c _ _ H.out (by omega)).mono ?_; rintro e w1 ⟨v1, rfl, hown, hb⟩; obtain ⟨B, cc, rfl, hcc, hmx, _⟩ := own_form hown; have O := Lib.hid hown; clear hown)
  go_ret
  exact ⟨w1.heap.size, rfl, RS.new tR O.out, hb.alloc hb.size _, hb.size⟩
end

section
open Go.RowKit
variable {Q : Nat → Prop}
end

section
open Go.RowKit
/-- what is left, and the failure, told as a state -/
def St (xs : List UInt8) (er : Int) : Option (List UInt8) → Prop
  | some r => xs = r ∧ er = 0
  | none => er ≠ 0
/-- Block g is a reader of type t in this state. -/
def Rs (Q : Nat → Prop) (w : World) (g : Nat) (t : TypeId) (st : Option (List UInt8)) : Prop := ∃ xs er, RS Q w g t xs er ∧ St xs er st ∧ xs.length ≤ 1099511627776

section
variable {Q : Nat → Prop} {w w' : World} {g : Nat} {t : TypeId} {st : Option (List UInt8)}
theorem Rs.mk_ {xs : List UInt8} {er : Int} (h : RS Q w g t xs er) (hs : St xs er st) (hl : xs.length ≤ 1099511627776) : Rs Q w g t st := ⟨xs, er, h, hs, hl⟩
theorem Rs.lt (h : Rs Q w g t st) : g < w.heap.size := by
  obtain ⟨_, _, h, _⟩ := h
  exact h.lt
theorem Rs.below (h : Rs Q w g t st) (hb : Below w.heap.size w w') : Rs Q w' g t st := by
  obtain ⟨xs, er, h, hs, hl⟩ := h
  exact ⟨xs, er, h.below hb, hs, hl⟩
theorem Rs.drew (h : Rs Q w g t st) : Rs Q w.drew g t st := h
theorem Rs.drewN (h : Rs Q w g t st) (n : Nat) : Rs Q (w.drewN n) g t st := h
theorem Rs.alloc (h : Rs Q w g t st) (o : Obj) : Rs Q (w.alloc o) g t st := h.below ((Below.refl _ w).alloc (Nat.le_refl _) o)
/-- A block is turned that isn't this reader's, and none of the bytes'. -/
theorem Rs.other {row : Option Nat} (h : Rs Q w g t st) (hg : w.grownBy w' row) (hr : ∀ b, row = some b → b ≠ g ∧ ¬ Q b) : Rs Q w' g t st := by
  obtain ⟨xs, er, h, hs, hl⟩ := h
  exact ⟨xs, er, h.other hg hr, hs, hl⟩
/-- Other bytes stay when the reader is turned. -/
theorem Rs.by_keep {Q' : Nat → Prop} {A : Option Addr} {n : Nat} {xs : List UInt8} (h : Rs Q w g t st) (hy : By w Q' A n xs) (hg : w.grownBy w' (some g)) : By w' Q' A n xs := by
  obtain ⟨_, _, ⟨A0, n0, c0, hw, _⟩, _⟩ := h
  exact hy.only hg hw
theorem Rs.block (h : Rs Q w g t st) : ∃ cs, w.heap[g]? = some (.cells cs t (0, 0)) := by
  obtain ⟨_, _, h, _⟩ := h
  exact h.block
/-- whether it failed, as its cell tells -/
theorem Rs.err (h : Rs Q w g t st) : ∃ er : Int, w.cell? ⟨g, 1, none⟩ = some (.int .i64 er) ∧ (er = 0 ↔ st ≠ none) := by
  obtain ⟨xs, er, ⟨A, n, c, hw, _⟩, hs, _⟩ := h
  refine ⟨er, by rw [cell_of_row w g 1 _ _ _ hw]; rfl, ?_⟩
  cases st with
  | none => exact ⟨fun e => absurd e hs, fun h => absurd rfl h⟩
  | some r => exact ⟨fun _ => by simp, fun _ => hs.2⟩
end

theorem num_st {xs : List UInt8} {er : Int} {st : Option (List UInt8)} (h : St xs er st) (k : Nat) (hk : wid k = true) :
    numV xs er k = nval k st ∧ St (numX xs er k) (numE xs er k) (nnext k st) := by
  unfold numV numX numE
  rw [hk]
  simp only [if_true]
  cases st with
  | none =>
    have he : er ≠ 0 := h
    refine ⟨?_, ?_⟩
    · unfold takeY
      rw [if_neg (fun h => he h.1)]
      rfl
    · show takeE xs er k ≠ 0
      unfold takeE
      rw [if_neg he]
      exact he
  | some r =>
    obtain ⟨rfl, rfl⟩ := h
    rw [nval_some, nnext_some]
    unfold takeY takeX takeE
    by_cases hl : k ≤ xs.length
    · have hc : (0 : Int) ≤ (k : Int) ∧ (k : Int) ≤ xs.length := ⟨by omega, by omega⟩
      rw [if_pos hl, if_pos hl, if_pos ⟨rfl, hc⟩, if_pos rfl, if_pos rfl, if_pos hc, if_pos hc]
      exact ⟨by simp, by simp, rfl⟩
    · have hc : ¬ ((0 : Int) ≤ (k : Int) ∧ (k : Int) ≤ xs.length) := by omega
      rw [if_neg hl, if_neg hl, if_neg (fun h => hc h.2), if_pos rfl, if_pos rfl, if_neg hc, if_neg hc]
      exact ⟨rfl, show (2 : Int) ≠ 0 by decide⟩
theorem take_st {xs : List UInt8} {er : Int} {st : Option (List UInt8)} (h : St xs er st) (k : Nat) :
    takeY xs er k = tval k st ∧ St (takeX xs er k) (takeE xs er k) (nnext k st) := by
  cases st with
  | none =>
    have he : er ≠ 0 := h
    refine ⟨?_, ?_⟩
    · unfold takeY
      rw [if_neg (fun h => he h.1)]
      rfl
    · show takeE xs er k ≠ 0
      unfold takeE
      rw [if_neg he]
      exact he
  | some r =>
    obtain ⟨rfl, rfl⟩ := h
    rw [tval_some, nnext_some]
    unfold takeY takeX takeE
    by_cases hl : k ≤ xs.length
    · have hc : (0 : Int) ≤ (k : Int) ∧ (k : Int) ≤ xs.length := ⟨by omega, by omega⟩
      rw [if_pos hl, if_pos hl, if_pos ⟨rfl, hc⟩, if_pos rfl, if_pos rfl, if_pos hc, if_pos hc]
      exact ⟨by simp, by simp, rfl⟩
    · have hc : ¬ ((0 : Int) ≤ (k : Int) ∧ (k : Int) ≤ xs.length) := by omega
      rw [if_neg hl, if_neg hl, if_neg (fun h => hc h.2), if_pos rfl, if_pos rfl, if_neg hc, if_neg hc]
      exact ⟨rfl, show (2 : Int) ≠ 0 by decide⟩
theorem up_st {X : List UInt8} {E : Int} {st : Option (List UInt8)} (h : St X E st) (V most : Nat) (b : Int) (hb : b ≠ 0) (hV : st = none → V = 0) :
    upV V most = ((if V ≤ most then V else 0 : Nat) : Int) ∧ St (upX X E V most) (upE E V most b) (if V ≤ most then st else none) := by
  unfold upV upX upE
  by_cases hl : V ≤ most
  · have hc : ¬ (most : Int) < (V : Nat) := by omega
    rw [if_neg hc, if_neg hc, if_neg hc, if_pos hl, if_pos hl]
    exact ⟨rfl, h⟩
  · have hc : (most : Int) < (V : Nat) := by omega
    rw [if_pos hc, if_pos hc, if_pos hc, if_neg hl, if_neg hl]
    refine ⟨rfl, ?_⟩
    show failE E b ≠ 0
    cases st with
    | none => exact absurd (hV rfl) (by omega)
    | some r =>
      rw [h.2]
      exact hb
theorem row_st {xs : List UInt8} {er : Int} {st : Option (List UInt8)} (h : St xs er st) (most : Nat) :
    rowY xs er most = rval most st ∧ St (rowX xs er most) (rowE xs er most) (rnext most st) := by
  obtain ⟨h1, h2⟩ := num_st h 4 rfl
  have h1' : numV xs er 4 = nval 4 st := h1
  have h2' : St (numX xs er 4) (numE xs er 4) (nnext 4 st) := h2
  have hz : nnext 4 st = none → nval 4 st = 0 := fun e => by
    cases st with
    | none => rfl
    | some r =>
      rw [nnext_some] at e
      rw [nval_some]
      split at e
      · cases e
      · rename_i hn
        rw [if_neg hn]
  obtain ⟨h3, h4⟩ := up_st h2' (nval 4 st) most 3 (by decide) hz
  unfold rowY rowX rowE rval rnext
  rw [h1', h3]
  obtain ⟨h5, h6⟩ := take_st h4 (if nval 4 st ≤ most then nval 4 st else 0)
  rw [h5]
  refine ⟨?_, ?_⟩
  · split
    · rfl
    · rfl
  · split
    · rename_i hl
      rw [if_pos hl, if_pos hl] at h6
      exact h6
    · rename_i hl
      rw [if_neg hl, if_neg hl] at h6
      exact h6
theorem cnt_st {xs : List UInt8} {er : Int} {st : Option (List UInt8)} (h : St xs er st) (most : Nat) :
    upV (numV xs er 2) most = (cval most st : Int) ∧ St (upX (numX xs er 2) (numE xs er 2) (numV xs er 2) most) (upE (numE xs er 2) (numV xs er 2) most 4) (cnext most st) := by
  obtain ⟨h1, h2⟩ := num_st h 2 rfl
  have h1' : numV xs er 2 = nval 2 st := h1
  have h2' : St (numX xs er 2) (numE xs er 2) (nnext 2 st) := h2
  have hz : nnext 2 st = none → nval 2 st = 0 := fun e => by
    cases st with
    | none => rfl
    | some r =>
      rw [nnext_some] at e
      rw [nval_some]
      split at e
      · cases e
      · rename_i hn
        rw [if_neg hn]
  obtain ⟨h3, h4⟩ := up_st h2' (nval 2 st) most 4 (by decide) hz
  rw [h1', h3]
  exact ⟨rfl, h4⟩
theorem end_st {xs : List UInt8} {er : Int} {st : Option (List UInt8)} (h : St xs er st) : endV xs er = 0 ↔ st = some [] := by
  unfold endV
  cases st with
  | none =>
    have he : er ≠ 0 := h
    rw [if_neg he]
    exact ⟨fun e => absurd e he, fun e => by cases e⟩
  | some r =>
    obtain ⟨rfl, rfl⟩ := h
    rw [if_pos rfl]
    by_cases hx : xs = []
    · rw [if_pos hx, hx]; simp
    · rw [if_neg hx]; simp [hx]

/-- what a number leaves isn't longer -/
theorem rowX_le (xs : List UInt8) (er : Int) (most : Int) : (rowX xs er most).length ≤ xs.length := by
  unfold rowX
  exact Nat.le_trans (takeX_le _ _ _) (Nat.le_trans (upX_le _ _ _ _) (numX_le _ _ _))

section
variable {Q : Nat → Prop} {g : Nat} {st : Option (List UInt8)} {w : World}
theorem number_rs (h : Rs Q w g tR st) (k : Nat) (hk : wid k = true) : Calls Tryd.prog 27 #[.pointer (some ⟨g, 0, none⟩), .int .i64 k] w fun e w' => e = .returned (.int .u64 (nval k st)) ∧ Rs Q w' g tR (nnext k st) ∧ w.grownBy w' (some g) := by
  obtain ⟨xs, er, h, hs, hl⟩ := h
  obtain ⟨h1, h2⟩ := num_st hs k hk
  rw [← h1]
  exact (number_any g xs er k w h).mono fun e w' ⟨he, hr, hg⟩ => ⟨he, ⟨_, _, hr, h2, Nat.le_trans (numX_le _ _ _) hl⟩, hg⟩
theorem row_rs (h : Rs Q w g tR st) (most : Nat) : Calls Tryd.prog 43 #[.pointer (some ⟨g, 0, none⟩), .int .i64 most] w fun e w' => ∃ B m c, e = .returned (.slice B m c) ∧ By w' (fun _ => True) B m (rval most st) ∧ Rs Q w' g tR (rnext most st) ∧ w.grownBy w' (some g) := by
  obtain ⟨xs, er, h, hs, hl⟩ := h
  obtain ⟨h1, h2⟩ := row_st hs most
  rw [← h1]
  exact (rowm_any g xs er most hl w h).mono fun e w' ⟨B, m, c, he, hm, hy, hr, hg⟩ => ⟨B, m, c, he, hy, ⟨_, _, hr, h2, Nat.le_trans (rowX_le _ _ _) hl⟩, hg⟩
theorem end_rs (h : Rs Q w g tR st) : Calls Tryd.prog 31 #[.pointer (some ⟨g, 0, none⟩)] w fun e w' => ∃ x, e = .returned (.int .i64 x) ∧ (x = 0 ↔ st = some []) ∧ w = w' := by
  obtain ⟨xs, er, h, hs, hl⟩ := h
  exact (end_any g xs er w h).mono fun e w' ⟨he, hw⟩ => ⟨_, he, end_st hs, hw⟩
theorem read_rs {Q' : Nat → Prop} {A : Option Addr} {n c : Nat} {xs : List UInt8} (h : By w Q' A n xs) (hn : n ≤ 1099511627776) : Calls Tryd.prog 26 #[.slice A n c] w fun e w' => ∃ g, e = .returned (.pointer (some ⟨g, 0, none⟩)) ∧ Rs (fun b => w.heap.size ≤ b) w' g tR (some xs) ∧ Below w.heap.size w w' ∧ w.heap.size ≤ g := by
  refine (read_any Q' A n c xs w h hn).mono fun e w' ⟨g, he, hr, hb, hg⟩ => ⟨g, he, ⟨xs, 0, hr, ⟨rfl, rfl⟩, ?_⟩, hb, hg⟩
  rw [h.len]
  exact hn
end
end

section
open Go.RowKit
/-- A call that hands back bytes. -/
def Byt (w : World) (xs : List UInt8) (e : Ending) (w' : World) : Prop := ∃ A n c, e = .returned (.slice A n c) ∧ By w' (fun _ => True) A n xs ∧ n ≤ c ∧ c ≤ maxLen ∧ Below w.heap.size w w'
theorem Byt.of_made {w w' : World} {n : Nat} {xs : List UInt8} {e : Ending} (h : Made w n xs e w') : Byt w xs e w' := by
  obtain ⟨v, he, ho, hb⟩ := h
  obtain ⟨A, c, rfl, hn, hm, _⟩ := own_form ho
  exact ⟨A, n, c, he, (By.of_own ho).weak fun _ _ => trivial, hn, hm, hb⟩
theorem putB_wid {k : Nat} (hk : wid k = true) (xs : List UInt8) (v : Nat) : putB xs v k = xs ++ beB v k := by
  unfold putB
  rw [if_pos hk]
  simp
section
variable {Q Q2 : Nat → Prop} {A B : Option Addr} {n c m d : Nat} {xs ys : List UInt8} {w : World}
theorem rput_by (k : Nat) (hk : wid k = true) (v : Nat) (hv : v < 18446744073709551616) (h : By w Q A n xs) (hn : xs.length ≤ 1099511627776) :
    Calls Tryd.prog 22 #[.slice A n c, .int .u64 v, .int .i64 k] w (Byt w (xs ++ beB v k)) := by
  refine (rput_any Q A n c xs v k (by omega) (by omega) w h (by rw [← h.len]; exact hn)).mono fun e w' hm => ?_
  rw [Int.toNat_natCast, putB_wid hk] at hm
  exact Byt.of_made hm
theorem put_by (k : Nat) (hk : wid k = true) (v : Nat) (hv : v < 18446744073709551616) (h : By w Q A n xs) (hn : xs.length ≤ 1099511627776) (hnc : n ≤ c) :
    Calls Tryd.prog 21 #[.slice A n c, .int .u64 v, .int .i64 k] w (Byt w (xs ++ beB v k)) := by
  refine (put_any Q A n c xs v k (by omega) (by omega) w h (by rw [← h.len]; exact hn) hnc).mono fun e w' hm => ?_
  rw [Int.toNat_natCast, putB_wid hk] at hm
  exact Byt.of_made hm
theorem rrow_by (h : By w Q A n xs) (h2 : By w Q2 B m ys) (hn : xs.length ≤ 1099511627776) (hm : ys.length ≤ 1099511627776) :
    Calls Tryd.prog 23 #[.slice A n c, .slice B m d] w (Byt w (xs ++ rowB ys)) := by
  refine (rrow_any Q A n c xs Q2 B m d ys w h h2 (by rw [← h.len]; exact hn) (by rw [← h2.len]; exact hm)).mono fun e w' hm => ?_
  rw [← h2.len, List.append_assoc] at hm
  exact Byt.of_made hm
theorem row_by (h : By w Q A n xs) (h2 : By w Q2 B m ys) (hn : xs.length ≤ 1099511627776) (hm : ys.length ≤ 1099511627776) (hnc : n ≤ c) :
    Calls Tryd.prog 44 #[.slice A n c, .slice B m d] w (Byt w (xs ++ rowB ys)) := by
  refine (row_any Q A n c xs Q2 B m d ys w h h2 (by rw [← h.len]; exact hn) (by rw [← h2.len]; exact hm) hnc).mono fun e w' hm => ?_
  rw [← h2.len, List.append_assoc] at hm
  exact Byt.of_made hm
end

/-- '[]byte(s)' -/
theorem by_bytes (w : World) (l : List UInt8) : By (Lib.bytesWorld w 5 (ba l)) (fun _ => True) (some ⟨w.heap.size, 0, none⟩) l.length l := by
  refine ⟨rfl, fun _ => ⟨_, _, rfl, trivial, fun j u hu => ?_⟩⟩
  have hj : j < l.length := (List.getElem?_eq_some_iff.1 hu).1
  rw [Nat.zero_add, Lib.bytesWorld_cell w 5 (ba l) j (by rw [ba_size]; exact hj)]
  have e : (ba l).data.toList = l := rfl
  rw [e, List.getD, hu]
  rfl
theorem below_bytes (w : World) (s : ByteArray) : Below w.heap.size w (Lib.bytesWorld w 5 s) :=
  ⟨rfl, rfl, rfl, by rw [Lib.bytesWorld_size]; omega, fun k hk => Lib.bytesWorld_at_old w 5 s k hk⟩
theorem step_str_bytes {ops : Array Oper} {o : Oper} {a : Act} {w : World} {K : Act → World → Prop} {Q : Exit → Act → World → Prop} {E : Prop} (hgd : o.guard = none) (x : Operand) (ho : o.op = .convert 9 34 x)
    (l : List UInt8) (hx : a.eval x = .string (ba l)) (h : ∀ A c w', By w' (fun _ => True) A l.length l → Below w.heap.size w w' → K (a.put o.dst (.slice A l.length c)) w') : if Region.wanted o (yielded ops a.tmps) = true then Oper.wp Tryd.prog o a w K Q else E := by
  have hw : Region.wanted o (yielded ops a.tmps) = true := by simp [Region.wanted, hgd]
  rw [if_pos hw]
  have hrun := Lib.run_convert_string_bytes (P := Tryd.prog) w 9 34 5 (ba l) Tryd.underlying9 Tryd.underlying34 Tryd.underlying5
  rw [ba_size] at hrun
  unfold Oper.wp execOp
  simp only [ho, hx, Sem.run_bind, hrun, Result.andThen_ok]
  exact h _ _ _ (by_bytes w l) (below_bytes w _)

theorem yields_conv {P : Program} {ops : Array Oper} {S : World → Prop} {op : Oper} {a : Act} (hw : Region.wanted op (yielded ops a.tmps) = true) (src dst : TypeId) (x : Operand) (ho : op.op = .convert src dst x)
    (p : Value) (hx : a.eval x = p) (v : Value) (hS : ∀ w, S w → (convert src dst p).run P w = .ok v w) : YieldsIf P ops S op v a :=
  .inl ⟨hw, fun w hw' => by
    unfold execOp
    simp only [ho, hx, Sem.run_bind, hS w hw', Result.andThen_ok]
    rfl⟩
theorem conv_u64 {P : Program} (t t' : TypeId) (ht : P.underlying t = some (.int .i64)) (ht' : P.underlying t' = some (.int .u64)) (v : Int) (w : World) : (convert t t' (.int .i64 v)).run P w = .ok (.int .u64 (u64N v)) w := by
  have e : IntKind.u64.wrap v = ((u64N v : Nat) : Int) := by
    unfold u64N
    simp [IntKind.wrap, IntKind.signed, IntKind.bits]
    omega
  simp [convert, run_underlying ht, run_underlying ht', Conv.intToInt, e]
end

end Go.Proofs.YtgbobemhogeeeaaDoor
