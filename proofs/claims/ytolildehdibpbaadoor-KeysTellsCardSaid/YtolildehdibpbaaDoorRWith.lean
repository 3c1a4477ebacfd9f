/-
  The document's with: 64 bytes of a key, each with a number.
-/
import Derived.Test.YtolildehdibpbaaDoorRBytes
import Derived.Test.YtolildehdibpbaaDoorRSum
import Derived.Outline
namespace Go.Proofs.YtolildehdibpbaaDoor
open Go.RowKit

theorem key64_at (k ks : List UInt8) (hks : short k = ks) (i : Nat) (hi : i < 64) : (key64 k)[i]? = some (if h : i < ks.length then ks[i] else 0) := by
  subst hks
  unfold key64
  split
  · rename_i h
    rw [List.getElem?_append_left h, List.getElem?_eq_getElem h]
  · rename_i h
    rw [List.getElem?_append_right (by omega), List.getElem?_replicate]
    have := short_le k
    rw [if_pos (by omega)]

set_option maxHeartbeats 4000000 in
set_option maxRecDepth 100000 in
theorem rwith_short (Q : Nat → Prop) (xs : List UInt8) (m : UInt8) (A : Option Addr) (n c : Nat) (w : World) (hby : By w Q A n xs) (h64 : n ≤ 64) (_hn : n ≤ 1000000) :
    Calls Tryd.prog 34 #[.slice A n c, .int .u8 (m.toNat : Int)] w fun e w' => ∃ A c, e = .returned (.slice A 64 c) ∧ w'.ownsRow w.heap.size 5 1 (.slice A 64 c) 64 (vs (mask (key64 xs) m)) ∧ Below w.heap.size w w' := by
  obtain ⟨i0, hi, hz0, hz1, hz2⟩ := info_parts Tryd.info_u8
  have hl := hby.len
  have hks : short xs = xs := by unfold short; rw [if_neg (by omega)]
  have hml : (mask (key64 xs) m).length = 64 := by rw [mask_length, key64_length]
  have HMl := Lib.hid hml
  have HL := Lib.hid hl
  have HBy := Lib.hid hby

  obtain ⟨ks, hke⟩ : ∃ ks, ks = xs := ⟨_, rfl⟩
  have hat := fun i (h : i < 64) => key64_at xs ks (by rw [hke]; exact hks) i h
  have hkl : ks.length = n := by rw [hke]; exact HL.out
  have HKl := Lib.hid hkl
  have HAt := Lib.hid hat
  have HBk : Hid (By w Q A n ks) := Lib.hid (by rw [hke]; exact HBy.out)
  obtain ⟨mk, hmk⟩ : ∃ mk, mk = mask (key64 xs) m := ⟨_, rfl⟩
  have hmat : ∀ (i : Nat) (x : UInt8), (key64 xs)[i]? = some x → mk[i]? = some (x ^^^ m) := fun i x h => by rw [hmk]; exact mask_at _ _ _ _ h
  have HMat := Lib.hid hmat
  rw [← hmk]
  rw [← hmk] at HMl
  clear hby hks hat hml hl hkl hke hmk hmat
  go_enter Tryd.func34, Tryd.ntmps34
  go_wp2
  go_loopw [5, 6] (fun ov iv wr => ∃ (i : Nat) (A : Option Addr) (c : Nat), i ≤ 64 ∧ iv = .int .i64 i ∧ ov = .slice A i c ∧ wr.ownsRow w.heap.size 5 1 (.slice A i c) i (vs (mk.take i)) ∧ Below w.heap.size w wr) (fun _ iv _ => 64 - (intOf iv).toNat)
  case atStart => exact ⟨0, none, 0, by omega, rfl, rfl, World.ownsRow_nil _ _ _ _, Below.refl _ _⟩
  case round =>
    obtain ⟨i, A5, c5, hi64, rfl, rfl, ho, hx⟩ := hrel
    have hxw : Below w.heap.size w wr := hx
    by_cases hlt : i < 64
    · by_cases hik : i < n
      · as_aux_lemma =>
        have hix : i < ks.length := by rw [HKl.out]; exact hik
        have hget := HAt.out i hlt
        rw [dif_pos hix] at hget
        obtain ⟨ga, oa, rfl, hca⟩ := (HBk.out.through hx).cell i hix
        generalize ks[i] = x at hget hca
        unfold u8 at hca
        have hx8 := u8_xor_toNat x m
        have hnx := HMat.out i x hget
        generalize x ^^^ m = y at hx8 hnx
        have HNext := Lib.hid (take_snoc hnx)
        have HO := Lib.hid ho
        have HX := Lib.hid hx
        have HXw := Lib.hid hxw
        clear ho hx hxw hget hix hnx
        go_wp2_with (at_builtin; refine wpList_append_by _ rfl (.tmp 26) (.tmp 30) 22 rfl w.heap.size i0 Tryd.underlying22 hi hz0 hz1 hz2 (.slice A5 i c5) i (vs (mk.take i)) rfl (HO.out.alloc _) (fun _ => True) (some ⟨wr.heap.size, 0, none⟩) 1 1 [y] rfl (By.one8 _ trivial) (by omega) (by have := HXw.out.size; simp; omega) ?_; intro v6 w6 hown6 hgrow6 _; have HX6 := Lib.hid ((HX.out.alloc HX.out.size _).grown hgrow6 (Nat.le_trans HX.out.size (by simp)) (fun g hg => (HO.out.lt g hg).1)); obtain ⟨A6, c6, rfl, _, _, _⟩ := own_form hown6; have HO6 : Hid (w6.ownsRow w.heap.size 5 1 (.slice A6 (i + 1) c6) (i + 1) (vs (mk.take (i + 1)))) := Lib.hid (by rw [vs_append, ← HNext.out] at hown6; exact hown6); clear hown6 hgrow6)
        go_roundw
        case rel => exact ⟨i + 1, A6, c6, by omega, by go_num, rfl, HO6.out, HX6.out⟩
        case measure => simp [intOf]; omega
      · as_aux_lemma =>
        have hget := HAt.out i hlt
        rw [dif_neg (by rw [HKl.out]; exact hik)] at hget
        have hx8 : bits .xor .u8 0 (m.toNat : Int) = (((0 : UInt8) ^^^ m).toNat : Int) := u8_xor_toNat 0 m
        have hnx := HMat.out i 0 hget
        generalize (0 : UInt8) ^^^ m = y at hx8 hnx
        have HNext := Lib.hid (take_snoc hnx)
        have HO := Lib.hid ho
        have HX := Lib.hid hx
        have HXw := Lib.hid hxw
        clear ho hx hxw hget hnx
        go_wp2_with (at_builtin; refine wpList_append_by _ rfl (.tmp 26) (.tmp 30) 22 rfl w.heap.size i0 Tryd.underlying22 hi hz0 hz1 hz2 (.slice A5 i c5) i (vs (mk.take i)) rfl (HO.out.alloc _) (fun _ => True) (some ⟨wr.heap.size, 0, none⟩) 1 1 [y] rfl (By.one8 _ trivial) (by omega) (by have := HXw.out.size; simp; omega) ?_; intro v6 w6 hown6 hgrow6 _; have HX6 := Lib.hid ((HX.out.alloc HX.out.size _).grown hgrow6 (Nat.le_trans HX.out.size (by simp)) (fun g hg => (HO.out.lt g hg).1)); obtain ⟨A6, c6, rfl, _, _, _⟩ := own_form hown6; have HO6 : Hid (w6.ownsRow w.heap.size 5 1 (.slice A6 (i + 1) c6) (i + 1) (vs (mk.take (i + 1)))) := Lib.hid (by rw [vs_append, ← HNext.out] at hown6; exact hown6); clear hown6 hgrow6)
        go_roundw
        case rel => exact ⟨i + 1, A6, c6, by omega, by go_num, rfl, HO6.out, HX6.out⟩
        case measure => simp [intOf]; omega
    · as_aux_lemma =>
      have e64 : i = 64 := by omega
      subst e64
      rw [List.take_of_length_le (by rw [HMl.out]; exact Nat.le_refl _)] at ho
      have HO := Lib.hid ho
      have HXw := Lib.hid hxw
      clear ho hx hxw
      go_wp2
      go_ret
      exact ⟨A5, c5, rfl, HO.out, HXw.out⟩

set_option maxHeartbeats 4000000 in
set_option maxRecDepth 100000 in
theorem rwith_long (Q : Nat → Prop) (xs : List UInt8) (m : UInt8) (A : Option Addr) (n c : Nat) (w : World) (hby : By w Q A n xs) (h64 : 64 < n) (hn : n ≤ 1000000) :
    Calls Tryd.prog 34 #[.slice A n c, .int .u8 (m.toNat : Int)] w fun e w' => ∃ A c, e = .returned (.slice A 64 c) ∧ w'.ownsRow w.heap.size 5 1 (.slice A 64 c) 64 (vs (mask (key64 xs) m)) ∧ Below w.heap.size w w' := by
  obtain ⟨i0, hi, hz0, hz1, hz2⟩ := info_parts Tryd.info_u8
  have hl := hby.len
  have hks : short xs = sha xs := by unfold short; rw [if_pos (by omega)]
  have hml : (mask (key64 xs) m).length = 64 := by rw [mask_length, key64_length]
  have HMl := Lib.hid hml
  have HL := Lib.hid hl
  have HBy := Lib.hid hby
  obtain ⟨q, hq⟩ : ∃ q, q = vs (sha xs) := ⟨_, rfl⟩
  have hsum : ∀ W, By W Q A n xs → Calls Tryd.prog 11 #[.slice A n c] W fun e w' => e = .returned (.agg q.toArray) ∧ Below W.heap.size W w' := fun W h => by
    rw [hq]; exact rsum_any Q xs A n c W h hn
  have hbytes : ∀ W, Calls Tryd.prog 35 #[.agg q.toArray] W fun e w' => ∃ A c, e = .returned (.slice A 32 c) ∧ w'.ownsRow W.heap.size 5 1 (.slice A 32 c) 32 (vs (sha xs)) ∧ Below W.heap.size W w' := fun W => by
    rw [hq]; exact rbytes_any (sha xs) (sha_length xs) W
  have HSum := Lib.hid hsum
  have HBytes := Lib.hid hbytes
  clear hq hsum hbytes
  obtain ⟨ks, hke⟩ : ∃ ks, ks = sha xs := ⟨_, rfl⟩
  have hat := fun i (h : i < 64) => key64_at xs ks (by rw [hke]; exact hks) i h
  have hkl : ks.length = 32 := by rw [hke]; exact sha_length xs
  have HKl := Lib.hid hkl
  have HAt := Lib.hid hat
  have HKe := Lib.hid hke
  obtain ⟨mk, hmk⟩ : ∃ mk, mk = mask (key64 xs) m := ⟨_, rfl⟩
  have hmat : ∀ (i : Nat) (x : UInt8), (key64 xs)[i]? = some x → mk[i]? = some (x ^^^ m) := fun i x h => by rw [hmk]; exact mask_at _ _ _ _ h
  have HMat := Lib.hid hmat
  rw [← hmk]
  rw [← hmk] at HMl
  clear hby hks hat hml hl hkl hke hmk hmat
  go_enter Tryd.func34, Tryd.ntmps34
  go_wp2_with (first
    | (go_at_call 11; (with_reducible refine (HSum.out _ HBy.out).mono ?_); rintro e w1 ⟨rfl, hb1⟩; have HX1 := Lib.hid hb1; clear hb1)
    | (go_at_call 35; (with_reducible refine (HBytes.out _).mono ?_); rintro e w2 ⟨A2, c2, rfl, ho2, hb2⟩; have HX2 : Hid (Below w.heap.size w w2) := Lib.hid (HX1.out.trans (hb2.mono HX1.out.size)); have HBk : Hid (By w2 (fun _ => True) A2 32 ks) := Lib.hid (by rw [HKe.out]; exact (By.of_own ho2).weak fun _ _ => trivial); clear ho2 hb2))
  go_loopw [5, 6] (fun ov iv wr => ∃ (i : Nat) (A : Option Addr) (c : Nat), i ≤ 64 ∧ iv = .int .i64 i ∧ ov = .slice A i c ∧ wr.ownsRow w2.heap.size 5 1 (.slice A i c) i (vs (mk.take i)) ∧ Below w2.heap.size w2 wr) (fun _ iv _ => 64 - (intOf iv).toNat)
  case atStart => exact ⟨0, none, 0, by omega, rfl, rfl, World.ownsRow_nil _ _ _ _, Below.refl _ _⟩
  case round =>
    obtain ⟨i, A5, c5, hi64, rfl, rfl, ho, hx⟩ := hrel
    have hxw : Below w.heap.size w wr := HX2.out.trans (hx.mono HX2.out.size)
    by_cases hlt : i < 64
    · by_cases hik : i < 32
      · as_aux_lemma =>
        have hix : i < ks.length := by rw [HKl.out]; exact hik
        have hget := HAt.out i hlt
        rw [dif_pos hix] at hget
        obtain ⟨ga, oa, rfl, hca⟩ := (HBk.out.through hx).cell i hix
        generalize ks[i] = x at hget hca
        unfold u8 at hca
        have hx8 := u8_xor_toNat x m
        have hnx := HMat.out i x hget
        generalize x ^^^ m = y at hx8 hnx
        have HNext := Lib.hid (take_snoc hnx)
        have HO := Lib.hid ho
        have HX := Lib.hid hx
        have HXw := Lib.hid hxw
        clear ho hx hxw hget hix hnx
        go_wp2_with (at_builtin; refine wpList_append_by _ rfl (.tmp 26) (.tmp 30) 22 rfl w2.heap.size i0 Tryd.underlying22 hi hz0 hz1 hz2 (.slice A5 i c5) i (vs (mk.take i)) rfl (HO.out.alloc _) (fun _ => True) (some ⟨wr.heap.size, 0, none⟩) 1 1 [y] rfl (By.one8 _ trivial) (by omega) (by have := HX.out.size; simp; omega) ?_; intro v6 w6 hown6 hgrow6 _; have HX6 := Lib.hid ((HX.out.alloc HX.out.size _).grown hgrow6 (Nat.le_trans HX.out.size (by simp)) (fun g hg => (HO.out.lt g hg).1)); obtain ⟨A6, c6, rfl, _, _, _⟩ := own_form hown6; have HO6 : Hid (w6.ownsRow w2.heap.size 5 1 (.slice A6 (i + 1) c6) (i + 1) (vs (mk.take (i + 1)))) := Lib.hid (by rw [vs_append, ← HNext.out] at hown6; exact hown6); clear hown6 hgrow6)
        go_roundw
        case rel => exact ⟨i + 1, A6, c6, by omega, by go_num, rfl, HO6.out, HX6.out⟩
        case measure => simp [intOf]; omega
      · as_aux_lemma =>
        have hget := HAt.out i hlt
        rw [dif_neg (by rw [HKl.out]; exact hik)] at hget
        have hx8 : bits .xor .u8 0 (m.toNat : Int) = (((0 : UInt8) ^^^ m).toNat : Int) := u8_xor_toNat 0 m
        have hnx := HMat.out i 0 hget
        generalize (0 : UInt8) ^^^ m = y at hx8 hnx
        have HNext := Lib.hid (take_snoc hnx)
        have HO := Lib.hid ho
        have HX := Lib.hid hx
        have HXw := Lib.hid hxw
        clear ho hx hxw hget hnx
        go_wp2_with (at_builtin; refine wpList_append_by _ rfl (.tmp 26) (.tmp 30) 22 rfl w2.heap.size i0 Tryd.underlying22 hi hz0 hz1 hz2 (.slice A5 i c5) i (vs (mk.take i)) rfl (HO.out.alloc _) (fun _ => True) (some ⟨wr.heap.size, 0, none⟩) 1 1 [y] rfl (By.one8 _ trivial) (by omega) (by have := HX.out.size; simp; omega) ?_; intro v6 w6 hown6 hgrow6 _; have HX6 := Lib.hid ((HX.out.alloc HX.out.size _).grown hgrow6 (Nat.le_trans HX.out.size (by simp)) (fun g hg => (HO.out.lt g hg).1)); obtain ⟨A6, c6, rfl, _, _, _⟩ := own_form hown6; have HO6 : Hid (w6.ownsRow w2.heap.size 5 1 (.slice A6 (i + 1) c6) (i + 1) (vs (mk.take (i + 1)))) := Lib.hid (by rw [vs_append, ← HNext.out] at hown6; exact hown6); clear hown6 hgrow6)
        go_roundw
        case rel => exact ⟨i + 1, A6, c6, by omega, by go_num, rfl, HO6.out, HX6.out⟩
        case measure => simp [intOf]; omega
    · as_aux_lemma =>
      have e64 : i = 64 := by omega
      subst e64
      rw [List.take_of_length_le (by rw [HMl.out]; exact Nat.le_refl _)] at ho
      have HO := Lib.hid ho
      have HXw := Lib.hid hxw
      clear ho hx hxw
      go_wp2
      go_ret
      exact ⟨A5, c5, rfl, own_weak HO.out HX2.out.size, HXw.out⟩

theorem rwith_any (Q : Nat → Prop) (xs : List UInt8) (m : UInt8) (A : Option Addr) (n c : Nat) (w : World) (hby : By w Q A n xs) (hn : n ≤ 1000000) :
    Calls Tryd.prog 34 #[.slice A n c, .int .u8 (m.toNat : Int)] w fun e w' => ∃ A c, e = .returned (.slice A 64 c) ∧ w'.ownsRow w.heap.size 5 1 (.slice A 64 c) 64 (vs (mask (key64 xs) m)) ∧ Below w.heap.size w w' := by
  rcases Nat.lt_or_ge 64 n with h | h
  · exact rwith_long Q xs m A n c w hby h hn
  · exact rwith_short Q xs m A n c w hby h hn

end Go.Proofs.YtolildehdibpbaaDoor
