/-
  Joined: RBytes, RWith, ROf, MacFix, Tags.
-/
import Derived.Test.YtolildehdibpbaaDoorLD
import Derived.Test.YtolildehdibpbaaDoorLC
import Derived.IntWalk
import Derived.Outline
import Derived.RegionTactic
import Derived.ChangeAlike
import Derived.StillTailTactics
import Derived.Deep.QuietTactic
import Derived.Test.YtolildehdibpbaaDoorLB
import Derived.Test.YtolildehdibpbaaDoorLA
namespace Go.Proofs.YtolildehdibpbaaDoor
open Go.RowKit

theorem take_snoc {xs : List UInt8} {i : Nat} {x : UInt8} (h : xs[i]? = some x) : xs.take (i + 1) = xs.take i ++ [x] := by
  have hi := (List.getElem?_eq_some_iff.1 h).1
  rw [List.take_succ_eq_append_getElem hi, (List.getElem?_eq_some_iff.1 h).2]

set_option maxHeartbeats 2000000 in
set_option maxRecDepth 100000 in
theorem rbytes_any (xs : List UInt8) (hxs : xs.length = 32) (w : World) :
    Calls Tryd.prog 35 #[.agg (vs xs).toArray] w fun e w' => ∃ A c, e = .returned (.slice A 32 c) ∧ w'.ownsRow w.heap.size 5 1 (.slice A 32 c) 32 (vs xs) ∧ Below w.heap.size w w' := by
  obtain ⟨i0, hi, hz0, hz1, hz2⟩ := info_parts Tryd.info_u8
  obtain ⟨q, hq⟩ : ∃ q, q = vs xs := ⟨_, rfl⟩
  have hql : q.length = 32 := by rw [hq, vs_length, hxs]
  have hidx : ∀ (W : World) (i : Nat) (x : UInt8), i < 32 → xs[i]? = some x → (Instr.index 25 (.agg q.toArray) (.int .i64 (i : Int))).run Tryd.prog W = .ok (.int .u8 (x.toNat : Int)) W := fun W i x h1 h2 =>
    run_index_row W 25 5 32 q .i64 i (u8 x) Tryd.underlying25 (by kernel_rfl) (by kernel_rfl) h1 (by rw [hq, vs_get, h2]; rfl)
  rw [← hq]
  have HQl := Lib.hid hql
  have HIdx := Lib.hid hidx
  have HQ := Lib.hid hq
  clear hql hidx hq
  go_enter Tryd.func35, Tryd.ntmps35
  go_wp2_with (refine wpList_load_blk rfl 25 (.tmp 1) rfl w.heap.size rfl 25 q _ (Blk.fresh rfl rfl) Tryd.underlying25 rfl (by rw [HQl.out]; kernel_rfl) ?_)
  go_loopw [3, 7] (fun ov iv wr => ∃ (i : Nat) (A : Option Addr) (c : Nat), i ≤ 32 ∧ iv = .int .i64 i ∧ ov = .slice A i c ∧ wr.ownsRow w.heap.size 5 1 (.slice A i c) i (vs (xs.take i)) ∧ Below w.heap.size w wr) (fun _ iv _ => 32 - (intOf iv).toNat)
  case atStart => exact ⟨0, none, 0, by omega, rfl, rfl, World.ownsRow_nil _ _ _ _, (Below.refl _ w).alloc (Nat.le_refl _) _⟩
  case round =>
    obtain ⟨i, A, c, hi32, rfl, rfl, ho, hx⟩ := hrel
    by_cases hlt : i < 32
    · as_aux_lemma =>
      have hix : i < xs.length := by rw [hxs]; exact hlt
      have hget := List.getElem?_eq_getElem hix
      generalize xs[i] = x at hget
      have hidx := fun W => HIdx.out W i x hlt hget
      have HNext := Lib.hid (take_snoc hget)
      have HO := Lib.hid ho
      have HX := Lib.hid hx
      clear ho hx hget hix
      go_wp2_with (at_builtin; refine wpList_append_by _ rfl (.tmp 10) (.tmp 12) 22 rfl w.heap.size i0 Tryd.underlying22 hi hz0 hz1 hz2 (.slice A i c) i (vs (xs.take i)) rfl (HO.out.alloc _) (fun _ => True) (some ⟨wr.heap.size, 0, none⟩) 1 1 [x] rfl (By.one8 _ trivial) (by omega) (by have := HX.out.size; simp; omega) ?_; intro v6 w6 hown6 hgrow6 _; have HX6 := Lib.hid ((HX.out.alloc HX.out.size _).grown hgrow6 (Nat.le_trans HX.out.size (by simp)) (fun g hg => (HO.out.lt g hg).1)); obtain ⟨A6, c6, rfl, _, _, _⟩ := own_form hown6; have HO6 : Hid (w6.ownsRow w.heap.size 5 1 (.slice A6 (i + 1) c6) (i + 1) (vs (xs.take (i + 1)))) := Lib.hid (by rw [vs_append, ← HNext.out] at hown6; exact hown6); clear hown6 hgrow6)
      go_roundw
      case rel => exact ⟨i + 1, A6, c6, by omega, by go_num, rfl, HO6.out, HX6.out⟩
      case measure => simp [intOf]; omega
    · as_aux_lemma =>
      have e32 : i = 32 := by omega
      subst e32
      rw [List.take_of_length_le (by omega)] at ho
      have HO := Lib.hid ho
      have HX := Lib.hid hx
      clear ho hx
      go_wp2
      go_ret
      exact ⟨A, c, rfl, by rw [HQ.out]; exact HO.out, HX.out⟩

theorem key64_at (k ks : List UInt8) (hks : short k = ks) (i : Nat) (hi : i < 64) : (key64 k)[i]? = some (if h : i < ks.length then ks[i] else 0) := by
  subst hks
  unfold key64
  split
  · rename_i h
    rw [List.getElem?_append_left h, List.getElem?_eq_getElem h]
  · rename_i h
    rw [List.getElem?_append_right (by omega), List.getElem?_replicate]
    have := short_le k
    rw [if_pos (by omega)]

set_option maxHeartbeats 4000000 in
set_option maxRecDepth 100000 in
theorem rwith_short (Q : Nat → Prop) (xs : List UInt8) (m : UInt8) (A : Option Addr) (n c : Nat) (w : World) (hby : By w Q A n xs) (h64 : n ≤ 64) (_hn : n ≤ 1000000) :
    Calls Tryd.prog 34 #[.slice A n c, .int .u8 (m.toNat : Int)] w fun e w' => ∃ A c, e = .returned (.slice A 64 c) ∧ w'.ownsRow w.heap.size 5 1 (.slice A 64 c) 64 (vs (mask (key64 xs) m)) ∧ Below w.heap.size w w' := by
  obtain ⟨i0, hi, hz0, hz1, hz2⟩ := info_parts Tryd.info_u8
  have hl := hby.len
  have hks : short xs = xs := by unfold short; rw [if_neg (by omega)]
  have hml : (mask (key64 xs) m).length = 64 := by rw [mask_length, key64_length]
  have HMl := Lib.hid hml
  have HL := Lib.hid hl
  have HBy := Lib.hid hby

  obtain ⟨ks, hke⟩ : ∃ ks, ks = xs := ⟨_, rfl⟩
  have hat := fun i (h : i < 64) => key64_at xs ks (by rw [hke]; exact hks) i h
  have hkl : ks.length = n := by rw [hke]; exact HL.out
  have HKl := Lib.hid hkl
  have HAt := Lib.hid hat
  have HBk : Hid (By w Q A n ks) := Lib.hid (by rw [hke]; exact HBy.out)
  obtain ⟨mk, hmk⟩ : ∃ mk, mk = mask (key64 xs) m := ⟨_, rfl⟩
  have hmat : ∀ (i : Nat) (x : UInt8), (key64 xs)[i]? = some x → mk[i]? = some (x ^^^ m) := fun i x h => by rw [hmk]; exact mask_at _ _ _ _ h
  have HMat := Lib.hid hmat
  rw [← hmk]
  rw [← hmk] at HMl
  clear hby hks hat hml hl hkl hke hmk hmat
  go_enter Tryd.func34, Tryd.ntmps34
  go_wp2
  go_loopw [5, 6] (fun ov iv wr => ∃ (i : Nat) (A : Option Addr) (c : Nat), i ≤ 64 ∧ iv = .int .i64 i ∧ ov = .slice A i c ∧ wr.ownsRow w.heap.size 5 1 (.slice A i c) i (vs (mk.take i)) ∧ Below w.heap.size w wr) (fun _ iv _ => 64 - (intOf iv).toNat)
  case atStart => exact ⟨0, none, 0, by omega, rfl, rfl, World.ownsRow_nil _ _ _ _, Below.refl _ _⟩
  case round =>
    obtain ⟨i, A5, c5, hi64, rfl, rfl, ho, hx⟩ := hrel
    have hxw : Below w.heap.size w wr := hx
    by_cases hlt : i < 64
    · by_cases hik : i < n
      · as_aux_lemma =>
        have hix : i < ks.length := by rw [HKl.out]; exact hik
        have hget := HAt.out i hlt
        rw [dif_pos hix] at hget
        obtain ⟨ga, oa, rfl, hca⟩ := (HBk.out.through hx).cell i hix
        generalize ks[i] = x at hget hca
        unfold u8 at hca
        have hx8 := u8_xor_toNat x m
        have hnx := HMat.out i x hget
        generalize x ^^^ m = y at hx8 hnx
        have HNext := Lib.hid (take_snoc hnx)
        have HO := Lib.hid ho
        have HX := Lib.hid hx
        have HXw := Lib.hid hxw
        clear ho hx hxw hget hix hnx
        go_wp2_with (at_builtin; refine wpList_append_by _ rfl (.tmp 26) (.tmp 30) 22 rfl w.heap.size i0 Tryd.underlying22 hi hz0 hz1 hz2 (.slice A5 i c5) i (vs (mk.take i)) rfl (HO.out.alloc _) (fun _ => True) (some ⟨wr.heap.size, 0, none⟩) 1 1 [y] rfl (By.one8 _ trivial) (by omega) (by have := HXw.out.size; simp; omega) ?_; intro v6 w6 hown6 hgrow6 _; have HX6 := Lib.hid ((HX.out.alloc HX.out.size _).grown hgrow6 (Nat.le_trans HX.out.size (by simp)) (fun g hg => (HO.out.lt g hg).1)); obtain ⟨A6, c6, rfl, _, _, _⟩ := own_form hown6; have HO6 : Hid (w6.ownsRow w.heap.size 5 1 (.slice A6 (i + 1) c6) (i + 1) (vs (mk.take (i + 1)))) := Lib.hid (by rw [vs_append, ← HNext.out] at hown6; exact hown6); clear hown6 hgrow6)
        go_roundw
        case rel => exact ⟨i + 1, A6, c6, by omega, by go_num, rfl, HO6.out, HX6.out⟩
        case measure => simp [intOf]; omega
      · as_aux_lemma =>
        have hget := HAt.out i hlt
        rw [dif_neg (by rw [HKl.out]; exact hik)] at hget
        have hx8 : bits .xor .u8 0 (m.toNat : Int) = (((0 : UInt8) ^^^ m).toNat : Int) := u8_xor_toNat 0 m
        have hnx := HMat.out i 0 hget
        generalize (0 : UInt8) ^^^ m = y at hx8 hnx
        have HNext := Lib.hid (take_snoc hnx)
        have HO := Lib.hid ho
        have HX := Lib.hid hx
        have HXw := Lib.hid hxw
        clear ho hx hxw hget hnx
        go_wp2_with (at_builtin; refine wpList_append_by _ rfl (.tmp 26) (.tmp 30) 22 rfl w.heap.size i0 Tryd.underlying22 hi hz0 hz1 hz2 (.slice A5 i c5) i (vs (mk.take i)) rfl (HO.out.alloc _) (fun _ => True) (some ⟨wr.heap.size, 0, none⟩) 1 1 [y] rfl (By.one8 _ trivial) (by omega) (by have := HXw.out.size; simp; omega) ?_; intro v6 w6 hown6 hgrow6 _; have HX6 := Lib.hid ((HX.out.alloc HX.out.size _).grown hgrow6 (Nat.le_trans HX.out.size (by simp)) (fun g hg => (HO.out.lt g hg).1)); obtain ⟨A6, c6, rfl, _, _, _⟩ := own_form hown6; have HO6 : Hid (w6.ownsRow w.heap.size 5 1 (.slice A6 (i + 1) c6) (i + 1) (vs (mk.take (i + 1)))) := Lib.hid (by rw [vs_append, ← HNext.out] at hown6; exact hown6); clear hown6 hgrow6)
        go_roundw
        case rel => exact ⟨i + 1, A6, c6, by omega, by go_num, rfl, HO6.out, HX6.out⟩
        case measure => simp [intOf]; omega
    · as_aux_lemma =>
      have e64 : i = 64 := by omega
      subst e64
      rw [List.take_of_length_le (by rw [HMl.out]; exact Nat.le_refl _)] at ho
      have HO := Lib.hid ho
      have HXw := Lib.hid hxw
      clear ho hx hxw
      go_wp2
      go_ret
      exact ⟨A5, c5, rfl, HO.out, HXw.out⟩

set_option maxHeartbeats 4000000 in
set_option maxRecDepth 100000 in
theorem rwith_long (Q : Nat → Prop) (xs : List UInt8) (m : UInt8) (A : Option Addr) (n c : Nat) (w : World) (hby : By w Q A n xs) (h64 : 64 < n) (hn : n ≤ 1000000) :
    Calls Tryd.prog 34 #[.slice A n c, .int .u8 (m.toNat : Int)] w fun e w' => ∃ A c, e = .returned (.slice A 64 c) ∧ w'.ownsRow w.heap.size 5 1 (.slice A 64 c) 64 (vs (mask (key64 xs) m)) ∧ Below w.heap.size w w' := by
  obtain ⟨i0, hi, hz0, hz1, hz2⟩ := info_parts Tryd.info_u8
  have hl := hby.len
  have hks : short xs = sha xs := by unfold short; rw [if_pos (by omega)]
  have hml : (mask (key64 xs) m).length = 64 := by rw [mask_length, key64_length]
  have HMl := Lib.hid hml
  have HL := Lib.hid hl
  have HBy := Lib.hid hby
  obtain ⟨q, hq⟩ : ∃ q, q = vs (sha xs) := ⟨_, rfl⟩
  have hsum : ∀ W, By W Q A n xs → Calls Tryd.prog 11 #[.slice A n c] W fun e w' => e = .returned (.agg q.toArray) ∧ Below W.heap.size W w' := fun W h => by
    rw [hq]; exact rsum_any Q xs A n c W h hn
  have hbytes : ∀ W, Calls Tryd.prog 35 #[.agg q.toArray] W fun e w' => ∃ A c, e = .returned (.slice A 32 c) ∧ w'.ownsRow W.heap.size 5 1 (.slice A 32 c) 32 (vs (sha xs)) ∧ Below W.heap.size W w' := fun W => by
    rw [hq]; exact rbytes_any (sha xs) (sha_length xs) W
  have HSum := Lib.hid hsum
  have HBytes := Lib.hid hbytes
  clear hq hsum hbytes
  obtain ⟨ks, hke⟩ : ∃ ks, ks = sha xs := ⟨_, rfl⟩
  have hat := fun i (h : i < 64) => key64_at xs ks (by rw [hke]; exact hks) i h
  have hkl : ks.length = 32 := by rw [hke]; exact sha_length xs
  have HKl := Lib.hid hkl
  have HAt := Lib.hid hat
  have HKe := Lib.hid hke
  obtain ⟨mk, hmk⟩ : ∃ mk, mk = mask (key64 xs) m := ⟨_, rfl⟩
  have hmat : ∀ (i : Nat) (x : UInt8), (key64 xs)[i]? = some x → mk[i]? = some (x ^^^ m) := fun i x h => by rw [hmk]; exact mask_at _ _ _ _ h
  have HMat := Lib.hid hmat
  rw [← hmk]
  rw [← hmk] at HMl
  clear hby hks hat hml hl hkl hke hmk hmat
  go_enter Tryd.func34, Tryd.ntmps34
  go_wp2_with (first
    | (go_at_call 11; (with_reducible refine (HSum.out _ HBy.out).mono ?_); rintro e w1 ⟨rfl, hb1⟩; have HX1 := Lib.hid hb1; clear hb1)
    | (go_at_call 35; (with_reducible refine (HBytes.out _).mono ?_); rintro e w2 ⟨A2, c2, rfl, ho2, hb2⟩; have HX2 : Hid (Below w.heap.size w w2) := Lib.hid (HX1.out.trans (hb2.mono HX1.out.size)); have HBk : Hid (By w2 (fun _ => True) A2 32 ks) := Lib.hid (by rw [HKe.out]; exact (By.of_own ho2).weak fun _ _ => trivial); clear ho2 hb2))
  go_loopw [5, 6] (fun ov iv wr => ∃ (i : Nat) (A : Option Addr) (c : Nat), i ≤ 64 ∧ iv = .int .i64 i ∧ ov = .slice A i c ∧ wr.ownsRow w2.heap.size 5 1 (.slice A i c) i (vs (mk.take i)) ∧ Below w2.heap.size w2 wr) (fun _ iv _ => 64 - (intOf iv).toNat)
  case atStart => exact ⟨0, none, 0, by omega, rfl, rfl, World.ownsRow_nil _ _ _ _, Below.refl _ _⟩
  case round =>
    obtain ⟨i, A5, c5, hi64, rfl, rfl, ho, hx⟩ := hrel
    have hxw : Below w.heap.size w wr := HX2.out.trans (hx.mono HX2.out.size)
    by_cases hlt : i < 64
    · by_cases hik : i < 32
      · as_aux_lemma =>
        have hix : i < ks.length := by rw [HKl.out]; exact hik
        have hget := HAt.out i hlt
        rw [dif_pos hix] at hget
        obtain ⟨ga, oa, rfl, hca⟩ := (HBk.out.through hx).cell i hix
        generalize ks[i] = x at hget hca
        unfold u8 at hca
        have hx8 := u8_xor_toNat x m
        have hnx := HMat.out i x hget
        generalize x ^^^ m = y at hx8 hnx
        have HNext := Lib.hid (take_snoc hnx)
        have HO := Lib.hid ho
        have HX := Lib.hid hx
        have HXw := Lib.hid hxw
        clear ho hx hxw hget hix hnx
        go_wp2_with (at_builtin; refine wpList_append_by _ rfl (.tmp 26) (.tmp 30) 22 rfl w2.heap.size i0 Tryd.underlying22 hi hz0 hz1 hz2 (.slice A5 i c5) i (vs (mk.take i)) rfl (HO.out.alloc _) (fun _ => True) (some ⟨wr.heap.size, 0, none⟩) 1 1 [y] rfl (By.one8 _ trivial) (by omega) (by have := HX.out.size; simp; omega) ?_; intro v6 w6 hown6 hgrow6 _; have HX6 := Lib.hid ((HX.out.alloc HX.out.size _).grown hgrow6 (Nat.le_trans HX.out.size (by simp)) (fun g hg => (HO.out.lt g hg).1)); obtain ⟨A6, c6, rfl, _, _, _⟩ := own_form hown6; have HO6 : Hid (w6.ownsRow w2.heap.size 5 1 (.slice A6 (i + 1) c6) (i + 1) (vs (mk.take (i + 1)))) := Lib.hid (by rw [vs_append, ← HNext.out] at hown6; exact hown6); clear hown6 hgrow6)
        go_roundw
        case rel => exact ⟨i + 1, A6, c6, by omega, by go_num, rfl, HO6.out, HX6.out⟩
        case measure => simp [intOf]; omega
      · as_aux_lemma =>
        have hget := HAt.out i hlt
        rw [dif_neg (by rw [HKl.out]; exact hik)] at hget
        have hx8 : bits .xor .u8 0 (m.toNat : Int) = (((0 : UInt8) ^^^ m).toNat : Int) := u8_xor_toNat 0 m
        have hnx := HMat.out i 0 hget
        generalize (0 : UInt8) ^^^ m = y at hx8 hnx
        have HNext := Lib.hid (take_snoc hnx)
        have HO := Lib.hid ho
        have HX := Lib.hid hx
        have HXw := Lib.hid hxw
        clear ho hx hxw hget hnx
        go_wp2_with (at_builtin; refine wpList_append_by _ rfl (.tmp 26) (.tmp 30) 22 rfl w2.heap.size i0 Tryd.underlying22 hi hz0 hz1 hz2 (.slice A5 i c5) i (vs (mk.take i)) rfl (HO.out.alloc _) (fun _ => True) (some ⟨wr.heap.size, 0, none⟩) 1 1 [y] rfl (By.one8 _ trivial) (by omega) (by have := HX.out.size; simp; omega) ?_; intro v6 w6 hown6 hgrow6 _; have HX6 := Lib.hid ((HX.out.alloc HX.out.size _).grown hgrow6 (Nat.le_trans HX.out.size (by simp)) (fun g hg => (HO.out.lt g hg).1)); obtain ⟨A6, c6, rfl, _, _, _⟩ := own_form hown6; have HO6 : Hid (w6.ownsRow w2.heap.size 5 1 (.slice A6 (i + 1) c6) (i + 1) (vs (mk.take (i + 1)))) := Lib.hid (by rw [vs_append, ← HNext.out] at hown6; exact hown6); clear hown6 hgrow6)
        go_roundw
        case rel => exact ⟨i + 1, A6, c6, by omega, by go_num, rfl, HO6.out, HX6.out⟩
        case measure => simp [intOf]; omega
    · as_aux_lemma =>
      have e64 : i = 64 := by omega
      subst e64
      rw [List.take_of_length_le (by rw [HMl.out]; exact Nat.le_refl _)] at ho
      have HO := Lib.hid ho
      have HXw := Lib.hid hxw
      clear ho hx hxw
      go_wp2
      go_ret
      exact ⟨A5, c5, rfl, own_weak HO.out HX2.out.size, HXw.out⟩

theorem rwith_any (Q : Nat → Prop) (xs : List UInt8) (m : UInt8) (A : Option Addr) (n c : Nat) (w : World) (hby : By w Q A n xs) (hn : n ≤ 1000000) :
    Calls Tryd.prog 34 #[.slice A n c, .int .u8 (m.toNat : Int)] w fun e w' => ∃ A c, e = .returned (.slice A 64 c) ∧ w'.ownsRow w.heap.size 5 1 (.slice A 64 c) 64 (vs (mask (key64 xs) m)) ∧ Below w.heap.size w w' := by
  rcases Nat.lt_or_ge 64 n with h | h
  · exact rwith_long Q xs m A n c w hby h hn
  · exact rwith_short Q xs m A n c w hby h hn

set_option maxHeartbeats 4000000 in
set_option maxRecDepth 100000 in
theorem rof_any (Q Q' : Nat → Prop) (key text : List UInt8) (A A' : Option Addr) (n c n' c' : Nat) (w : World) (hby : By w Q A n key) (hby' : By w Q' A' n' text) (hn : n ≤ 1000000) (hn' : n' ≤ 900000) :
    Calls Tryd.prog 14 #[.slice A n c, .slice A' n' c'] w fun e w' => e = .returned (dig (hmac key text)) ∧ Below w.heap.size w w' := by
  obtain ⟨i0, hi, hz0, hz1, hz2⟩ := info_parts Tryd.info_u8
  have HBy := Lib.hid hby
  have HBy' := Lib.hid hby'
  obtain ⟨m1, hm1⟩ : ∃ m1, m1 = mask (key64 key) 54 := ⟨_, rfl⟩
  obtain ⟨m2, hm2⟩ : ∃ m2, m2 = mask (key64 key) 92 := ⟨_, rfl⟩
  obtain ⟨inner, hin⟩ : ∃ inner, inner = sha (m1 ++ text) := ⟨_, rfl⟩
  have hil : inner.length = 32 := by rw [hin, sha_length]
  obtain ⟨q, hq⟩ : ∃ q, q = vs inner := ⟨_, rfl⟩
  have hql : q.length = 32 := by rw [hq, vs_length, hil]
  have hqo : q.toArray.all (·.oneCell') = true := by rw [hq]; exact one_u8
  obtain ⟨r, hr⟩ : ∃ r, r = vs (hmac key text) := ⟨_, rfl⟩
  have hrl : r.length = 32 := by rw [hr, vs_length, hmac_length]
  have hro : r.toArray.all (·.oneCell') = true := by rw [hr]; exact one_u8
  have hf : dig (hmac key text) = .agg r.toArray := by rw [hr]; rfl
  have hr2 : r = vs (sha (m2 ++ inner)) := by rw [hr, hm2, hin, hm1]; rfl
  have hw1 : ∀ W, By W Q A n key → Calls Tryd.prog 34 #[.slice A n c, .int .u8 54] W fun e w' => ∃ A c, e = .returned (.slice A 64 c) ∧ w'.ownsRow W.heap.size 5 1 (.slice A 64 c) 64 (vs m1) ∧ Below W.heap.size W w' := fun W h => by
    rw [hm1]; exact rwith_any Q key 54 A n c W h hn
  have hw2 : ∀ W, By W Q A n key → Calls Tryd.prog 34 #[.slice A n c, .int .u8 92] W fun e w' => ∃ A c, e = .returned (.slice A 64 c) ∧ w'.ownsRow W.heap.size 5 1 (.slice A 64 c) 64 (vs m2) ∧ Below W.heap.size W w' := fun W h => by
    rw [hm2]; exact rwith_any Q key 92 A n c W h hn
  have hbytes : ∀ W, Calls Tryd.prog 35 #[.agg q.toArray] W fun e w' => ∃ A c, e = .returned (.slice A 32 c) ∧ w'.ownsRow W.heap.size 5 1 (.slice A 32 c) 32 (vs inner) ∧ Below W.heap.size W w' := fun W => by
    rw [hq]; exact rbytes_any inner hil W
  have hs1 : ∀ W Q A c, By W Q A (64 + n') (m1 ++ text) → Calls Tryd.prog 11 #[.slice A (64 + n') c] W fun e w' => e = .returned (.agg q.toArray) ∧ Below W.heap.size W w' := fun W Q A c h => by
    rw [hq, hin]; exact rsum_any Q _ A _ c W h (by omega)
  have hs2 : ∀ W Q A c, By W Q A 96 (m2 ++ inner) → Calls Tryd.prog 11 #[.slice A 96 c] W fun e w' => e = .returned (.agg r.toArray) ∧ Below W.heap.size W w' := fun W Q A c h => by
    rw [hr2]; exact rsum_any Q _ A _ c W h (by omega)
  have HW1 := Lib.hid hw1
  have HW2 := Lib.hid hw2
  have HBytes := Lib.hid hbytes
  have HS1 := Lib.hid hs1
  have HS2 := Lib.hid hs2
  have HQl := Lib.hid hql
  have HQo := Lib.hid hqo
  have HRl := Lib.hid hrl
  have HRo := Lib.hid hro
  have HF := Lib.hid hf
  clear hby hby' hm1 hm2 hin hil hq hql hqo hr hrl hro hf hr2 hw1 hw2 hbytes hs1 hs2
  go_enter Tryd.func14, Tryd.ntmps14
  go_wp2_with (first
    | (go_at_call 34; (with_reducible refine (HW1.out _ (HBy.out.alloc _)).mono ?_); rintro e w1 ⟨A1, c1, rfl, ho1, hb1⟩; have HX1 : Hid (Below w.heap.size w w1) := Lib.hid (((Below.refl _ w).alloc (Nat.le_refl _) _).trans (hb1.mono (by simp))); have HO1 : Hid (w1.ownsRow (w.heap.size + 1) 5 1 (.slice A1 64 c1) 64 (vs m1)) := Lib.hid (own_weak ho1 (by simp)); have HB1 : Hid (Blk w1 w.heap.size 28 (vs zero32)) := Lib.hid ((Blk.fresh rfl (by kernel_rfl)).through hb1); clear hb1 ho1)
    | (at_builtin; refine wpList_append_by _ rfl (.tmp 7) (.tmp 8) 22 rfl (w.heap.size + 1) i0 Tryd.underlying22 hi hz0 hz1 hz2 (.slice A1 64 c1) 64 (vs m1) rfl (HO1.out) Q' A' n' c' text rfl (HBy'.out.through HX1.out) (by omega) HB1.out.lt ?_; intro v2 w2 hown2 hgrow2 _; have HX2 := Lib.hid (HX1.out.grown hgrow2 HX1.out.size (fun g hg => Nat.le_of_succ_le (HO1.out.lt g hg).1)); have HB2 := Lib.hid (HB1.out.grown hgrow2 (fun e => absurd (HO1.out.lt _ e.symm).1 (Nat.not_succ_le_self _))); rw [vs_append] at hown2; obtain ⟨A2, c2, rfl, _, _, _⟩ := own_form hown2; have HO2 := Lib.hid ((By.of_own hown2).weak (Q' := fun _ => True) fun _ _ => trivial); clear hown2 hgrow2)
    | (go_at_call 11; (with_reducible refine (HS1.out _ _ _ _ HO2.out).mono ?_); rintro e w3 ⟨rfl, hb3⟩; have HX3 := Lib.hid (HX2.out.trans (hb3.mono HX2.out.size)); have HB3 := Lib.hid (HB2.out.through hb3); clear hb3)
    | (refine wpList_store_blk rfl 25 (.tmp 5) (.tmp 10) rfl w3.heap.size q rfl rfl 25 (vs zero32) (Blk.fresh rfl (by kernel_rfl)) (by rw [HQl.out]; kernel_rfl) (by rw [HQl.out]; rfl) HQo.out ?_; intro w6 hb6 ho6; have HX6 := Lib.hid ((HX3.out.alloc HX3.out.size _).grown ho6 (Nat.le_trans HX3.out.size (by simp)) (fun g hg => Option.some.inj hg ▸ HX3.out.size)); have HB4 := Lib.hid ((HB3.out.alloc _).grown ho6 (fun e => absurd (Option.some.inj e) (Nat.ne_of_lt HB3.out.lt))); have hlt5 := HB3.out.lt; have HB5 := Lib.hid hb6; clear hb6 ho6))
  obtain ⟨g5, hg5⟩ : ∃ g5, g5 = w3.heap.size := ⟨_, rfl⟩
  rw [← hg5] at HB5 hlt5
  rw [← hg5]
  clear hg5
  dsimp only [Act.put]
  refine wp_region_held_drew (S := fun W => Blk W g5 25 q ∧ Below w.heap.size w W) (by kernel_rfl) ⟨HB5.out.drew, HX6.out.drew⟩ (fun hHeld => ?_)
  change wpAnyH _ _ _ _ _ _ #[false, false, false, false, false, false, false] _ _
  refine wpAnyH_take (i := 0) (v := (.slice A n c)) rfl (by kernel_rfl) (by kernel_rfl) (by kernel_rfl) (fun _ _ _ h => h) (Or.inl ⟨by kernel_rfl, fun w hSw => ?_⟩) (by assumption) ?_
  · (try dsimp only at hSw); go_simp <;> (try rfl)
  change wpAnyH _ _ _ _ _ _ _ (Act.put _ (some (11 : Nat)) (.slice A n c)) _
  simp only [Act.put, List.setIfInBounds_toArray, List.set_cons_zero, List.set_cons_succ]
  refine wpAnyH_take (i := 2) (v := (.agg q.toArray)) rfl (by kernel_rfl) (by kernel_rfl) (by kernel_rfl) (fun _ _ _ h => h) (yields_load_at (by kernel_rfl) 25 (.tmp 5) rfl (.pointer (some ⟨g5, 0, none⟩)) (by simp [Act.eval]) (.agg q.toArray) (fun W hW => hW.1.loadAt 25 _ Tryd.underlying25 rfl (by rw [HQl.out]; kernel_rfl))) (by assumption) ?_
  change wpAnyH _ _ _ _ _ _ _ (Act.put _ (some (13 : Nat)) (.agg q.toArray)) _
  simp only [Act.put, List.setIfInBounds_toArray, List.set_cons_zero, List.set_cons_succ]
  refine wpAnyH_ready (rs := [1]) (by kernel_rfl) (by simp) ?_
  refine AllReadyH.cons rfl (fun K hK => ?_) AllReadyH.nil
  go_simp
  refine (HW2.out _ (HBy.out.through HX6.out).drew).mono ?_
  rintro e w7 ⟨A7, c7, rfl, ho7, hb7⟩; have HX7 := Lib.hid (HX6.out.drew.trans (hb7.mono HX6.out.size)); have HB57 := Lib.hid (HB5.out.drew.through hb7); have HB47 := Lib.hid (HB4.out.drew.through hb7); have HO7 := Lib.hid ho7; have hs7 := hb7.size; clear ho7 hb7
  go_wp2_with fail
  refine hK.out _ _ ⟨HB57.out, HX7.out⟩ (fun hHeld1 => ?_)
  clear hHeld hK K
  have hHeld := hHeld1
  clear hHeld1
  refine wpAnyH_ready (rs := [3]) (by kernel_rfl) (by simp) ?_
  refine AllReadyH.cons rfl (fun K hK => ?_) AllReadyH.nil
  go_simp
  refine (HBytes.out _).mono ?_
  rintro e w8 ⟨A8, c8, rfl, ho8, hb8⟩; have HX8 := Lib.hid (HX7.out.trans (hb8.mono HX7.out.size)); have HB58 := Lib.hid (HB57.out.through hb8); have HB48 := Lib.hid (HB47.out.through hb8); have HO8 := Lib.hid (own_keepB HO7.out hb8); have HY8 := Lib.hid ((By.of_own ho8).weak (Q' := fun _ => True) fun _ _ => trivial); have hs8 := Nat.le_trans hs7 hb8.size; clear ho8 hb8
  go_wp2_with fail
  refine hK.out _ _ ⟨HB58.out, HX8.out⟩ (fun hHeld1 => ?_)
  clear hHeld hK K
  have hHeld := hHeld1
  clear hHeld1
  refine wpAnyH_ready (rs := [4]) (by kernel_rfl) (by simp) ?_
  refine AllReadyH.cons (o := ⟨some 15, .call { callee := .builtin .append, args := #[.tmp 12, .tmp 14], argTypes := #[22, 22] }, _, _, _, none⟩) rfl (fun K hK => ?_) AllReadyH.nil
  refine step_append_by (by kernel_rfl) (.tmp 12) (.tmp 14) 22 rfl w6.drew.heap.size i0 Tryd.underlying22 hi hz0 hz1 hz2 (.slice A7 64 c7) 64 m2 (by simp [Act.eval]) HO8.out (fun _ => True) A8 32 c8 inner (by simp [Act.eval]) HY8.out (by omega) hs8 96 rfl _ rfl ?_; intro A9 c9 w9 ho9 _ _ hb9; have HX9 := Lib.hid (HX8.out.trans (hb9.mono HX6.out.size)); have HB59 := Lib.hid (HB58.out.below hb9 HB5.out.lt); have HB49 := Lib.hid (HB48.out.below hb9 HB4.out.lt); have HY9 := Lib.hid ((By.of_own ho9).weak (Q' := fun _ => True) fun _ _ => trivial); clear ho9 hb9
  refine hK.out _ _ ⟨HB59.out, HX9.out⟩ (fun hHeld1 => ?_)
  clear hHeld hK K
  have hHeld := hHeld1
  clear hHeld1
  change wpAnyH _ _ _ _ _ _ _ (Act.put _ (some (15 : Nat)) (.slice A9 96 c9)) _
  simp only [Act.put, List.setIfInBounds_toArray, List.set_cons_zero, List.set_cons_succ]
  refine wpAnyH_ready (rs := [5]) (by kernel_rfl) (by simp) ?_
  refine AllReadyH.cons rfl (fun K hK => ?_) AllReadyH.nil
  go_simp
  refine (HS2.out _ _ _ _ HY9.out).mono ?_
  rintro e wa ⟨rfl, hba⟩; have HXa := Lib.hid (HX9.out.trans (hba.mono HX9.out.size)); have HB5a := Lib.hid (HB59.out.through hba); have HB4a := Lib.hid (HB49.out.through hba); clear hba
  go_wp2_with fail
  refine hK.out _ _ ⟨HB5a.out, HXa.out⟩ (fun hHeld1 => ?_)
  clear hHeld hK K
  have hHeld := hHeld1
  clear hHeld1
  refine wpAnyH_ready (rs := [6]) (by kernel_rfl) (by simp) ?_
  refine AllReadyH.cons (o := ⟨none, .store 28 (.tmp 4) (.tmp 16), _, _, _, none⟩) rfl (fun K hK => ?_) AllReadyH.nil
  refine step_store_blk rfl 28 (.tmp 4) (.tmp 16) rfl w.heap.size r (by simp [Act.eval]) (by simp [Act.eval]) 28 (vs zero32) HB4a.out (by rw [HRl.out]; kernel_rfl) (by rw [HRl.out]; rfl) HRo.out ?_; intro wb hbb hob; have HB5b := Lib.hid (HB5a.out.grown hob (fun e => absurd (Option.some.inj e) (Nat.ne_of_gt hlt5))); have HXb := Lib.hid (HXa.out.grown hob HXa.out.size (fun k hk => Option.some.inj hk ▸ Nat.le_refl _)); have HBb := Lib.hid hbb; clear hbb hob
  refine hK.out _ _ ⟨HB5b.out, HXb.out⟩ (fun hHeld1 => ?_)
  clear hHeld hK K
  have hHeld := hHeld1
  clear hHeld1
  change wpAnyH _ _ _ _ _ _ _ (Act.put _ none undef) _
  simp only [Act.put]
  refine wpAnyH_done (by kernel_rfl) ?_ _
  go_wp2
  refine bodyPost_ret (v := .agg r.toArray) (results_cell_row rfl _ _ w.heap.size 28 _ (0, 0) _ rfl HBb.out Tryd.underlying28 rfl ?r1) rfl ⟨by rw [HF.out], HXb.out⟩
  rw [List.size_toArray, HRl.out]; kernel_rfl

theorem hmac_nil3 : (hmac [] []).take 3 = [182, 19, 103] := by decide +kernel
theorem hmac_nil_at : (hmac [] [])[0]? = some 182 ∧ (hmac [] [])[1]? = some 19 ∧ (hmac [] [])[2]? = some 103 := by
  have h := hmac_nil3
  have e : ∀ j, j < 3 → (hmac [] [])[j]? = ((hmac [] []).take 3)[j]? := fun j hj => by rw [List.getElem?_take, if_pos hj]
  refine ⟨?_, ?_, ?_⟩ <;> (rw [e _ (by omega), h]; rfl)

set_option maxHeartbeats 4000000 in
set_option maxRecDepth 100000 in
theorem mfixed_any (w : World) (ht : Tab w) :
    Calls Tryd.prog 12 #[] w fun e w' => e = .returned (.bool true) ∧ Below w.heap.size w w' := by
  have HT := Lib.hid ht
  obtain ⟨a0, a1, a2⟩ := hmac_nil_at
  obtain ⟨r, hr⟩ : ∃ r, r = vs (hmac [] []) := ⟨_, rfl⟩
  have r0 : r[0]? = some (.int .u8 182) := by rw [hr, vs_get, a0]; rfl
  have r1 : r[1]? = some (.int .u8 19) := by rw [hr, vs_get, a1]; rfl
  have r2 : r[2]? = some (.int .u8 103) := by rw [hr, vs_get, a2]; rfl
  have hrl : r.length = 32 := by rw [hr, vs_length, hmac_length]
  have hone : r.toArray.all (·.oneCell') = true := by rw [hr]; exact one_u8
  have hof : ∀ W, Tab W → Calls Tryd.prog 13 #[.slice none 0 0, .slice none 0 0] W fun e w' => e = .returned (.agg r.toArray) ∧ Below W.heap.size W w' := fun W h => by
    rw [hr]; exact of_any (fun _ => True) (fun _ => True) [] [] none none 0 0 0 0 W By.none_ (Nat.le_refl _) (by unfold maxLen; omega) By.none_ (Nat.le_refl _) (by unfold maxLen; omega) h (by omega) (by omega)
  have hck : ∀ W, Tab W → Calls Tryd.prog 15 #[.slice none 0 0, .slice none 0 0, .agg r.toArray] W fun e w' => e = .returned (.bool true) ∧ Below W.heap.size W w' := fun W h => by
    have h := check_any (fun _ => True) (fun _ => True) [] [] (hmac [] []) (hmac_length _ _) none none 0 0 0 0 W By.none_ (Nat.le_refl _) (by unfold maxLen; omega) By.none_ (Nat.le_refl _) (by unfold maxLen; omega) h (by omega) (by omega)
    rw [beq_self_eq_true] at h
    rw [hr]; exact h
  have hs1 : ∀ W, Calls Tryd.prog 16 #[.slice none 0 0, .slice none 0 0] W fun e w' => e = .returned (.bool true) ∧ Below W.heap.size W w' := fun W =>
    same_any (fun _ => True) (fun _ => True) [] [] none none 0 0 0 0 W By.none_ By.none_ (by omega) (by omega)
  have hs2 : ∀ W g, By W (fun _ => True) (some ⟨g, 0, none⟩) 1 [1] → Calls Tryd.prog 16 #[.slice (some ⟨g, 0, none⟩) 1 1, .slice none 0 0] W fun e w' => e = .returned (.bool false) ∧ Below W.heap.size W w' := fun W g h =>
    same_any (fun _ => True) (fun _ => True) [1] [] (some ⟨g, 0, none⟩) none 1 1 0 0 W h By.none_ (by omega) (by omega)
  have HOf := Lib.hid hof
  have HCk := Lib.hid hck
  have HS1 := Lib.hid hs1
  have HS2 := Lib.hid hs2
  have HRl := Lib.hid hrl
  have HO := Lib.hid hone
  have R0 := Lib.hid r0
  have R1 := Lib.hid r1
  have R2 := Lib.hid r2
  clear ht a0 a1 a2 hr r0 r1 r2 hrl hone hof hck hs1 hs2
  go_enter Tryd.func12, Tryd.ntmps12
  go_wp2_with (first
    | (go_at_call 13; (with_reducible refine (HOf.out _ HT.out).mono ?_); rintro e w1 ⟨rfl, hb1⟩; have HX1 := Lib.hid hb1; clear hb1)
    | (refine wpList_store_blk rfl 28 (.tmp 1) (.tmp 2) rfl w1.heap.size r rfl rfl 28 (vs zero32) (Blk.fresh rfl (by kernel_rfl)) (by rw [HRl.out]; kernel_rfl) (by rw [HRl.out]; rfl) HO.out ?_; intro w2 hb2 ho2; have c0 := hb2.cellAt R0.out; have c1 := hb2.cellAt R1.out; have c2 := hb2.cellAt R2.out; have HB2 := Lib.hid hb2; have HX2 : Hid (Below w.heap.size w w2) := Lib.hid ((HX1.out.alloc HX1.out.size _).grown ho2 (Nat.le_trans HX1.out.size (by simp)) (fun k hk => Option.some.inj hk ▸ HX1.out.size)); clear hb2 ho2)
    | (go_at_call 16; (with_reducible refine (HS1.out _).mono ?_); rintro e w3 ⟨rfl, hb3⟩; have HX3 := Lib.hid (HX2.out.trans (hb3.mono HX2.out.size)); have HB3 := Lib.hid (HB2.out.through hb3); clear hb3)
    | (go_at_call 16; (with_reducible refine (HS2.out _ _ (By.one _ trivial rfl)).mono ?_); rintro e w4 ⟨rfl, hb4⟩; have HX4 := Lib.hid ((HX3.out.alloc HX3.out.size _).trans (hb4.mono (Nat.le_trans HX3.out.size (by simp)))); have HB4 := Lib.hid ((HB3.out.alloc _).through hb4); clear hb4)
    | (refine wpList_load_blk_g 28 (.tmp 1) rfl (by kernel_rfl) w1.heap.size rfl 28 r _ HB4.out Tryd.underlying28 rfl (by rw [HRl.out]; kernel_rfl) ?_)
    | (go_at_call 15; (with_reducible refine (HCk.out _ (HT.out.through HX4.out)).mono ?_); rintro e w5 ⟨rfl, hb5⟩; have HX5 := Lib.hid (HX4.out.trans (hb5.mono HX4.out.size)); clear hb5))
  go_ret
  exact ⟨rfl, HX5.out⟩

theorem tag_eql (xs ys : List UInt8) (hx : xs.length = 32) (hy : ys.length = 32) (w : World) : (binOp .eql 28 (.agg (vs xs).toArray) (.agg (vs ys).toArray)).run Tryd.prog w = .ok (.bool (xs == ys)) w :=
  run_eql_bytes w 28 5 32 Tryd.underlying28 Tryd.underlying5 (by kernel_rfl) (by kernel_rfl) xs ys hx hy

set_option maxHeartbeats 4000000 in
set_option maxRecDepth 100000 in
theorem tags_any (Q Q' : Nat → Prop) (key text : List UInt8) (A A' : Option Addr) (n c n' c' : Nat) (w : World) (ht : Tab w) (hby : By w Q A n key) (hnc : n ≤ c) (hcm : c ≤ maxLen) (hby' : By w Q' A' n' text) (hnc' : n' ≤ c') (hcm' : c' ≤ maxLen) :
    Calls Tryd.prog 4 #[.slice A n c, .slice A' n' c'] w fun e w' => e = .returned (.bool true) ∧ Below w.heap.size w w' := by
  have HT := Lib.hid ht
  have HBy := Lib.hid hby
  have HBy' := Lib.hid hby'
  by_cases hn : 200 < n
  · have hd : decide (200 < (n : Int)) = true := by simp; omega
    clear ht hby hby'
    go_enter Tryd.func4, Tryd.ntmps4
    go_wp2_with (go_at_call 12; refine (mfixed_any _ HT.out).mono ?_; rintro e w1 ⟨rfl, hx1⟩)
    go_ret
    exact ⟨rfl, hx1⟩
  by_cases hn' : 200 < n'
  · have hd : decide (200 < (n : Int)) = false := by simp; omega
    have hd' : decide (200 < (n' : Int)) = true := by simp; omega
    clear ht hby hby'
    go_enter Tryd.func4, Tryd.ntmps4
    go_wp2_with (go_at_call 12; refine (mfixed_any _ HT.out).mono ?_; rintro e w1 ⟨rfl, hx1⟩)
    go_ret
    exact ⟨rfl, hx1⟩
  have hd : decide (200 < (n : Int)) = false := by simp; omega
  have hd' : decide (200 < (n' : Int)) = false := by simp; omega
  obtain ⟨r, hr⟩ : ∃ r, r = vs (hmac key text) := ⟨_, rfl⟩
  have hof : ∀ W, By W Q A n key → By W Q' A' n' text → Tab W → Calls Tryd.prog 13 #[.slice A n c, .slice A' n' c'] W fun e w' => e = .returned (.agg r.toArray) ∧ Below W.heap.size W w' := fun W h1 h2 h3 => by
    rw [hr]; exact of_any Q Q' key text A A' n c n' c' W h1 hnc hcm h2 hnc' hcm' h3 (by omega) (by omega)
  have hrof : ∀ W, By W Q A n key → By W Q' A' n' text → Calls Tryd.prog 14 #[.slice A n c, .slice A' n' c'] W fun e w' => e = .returned (.agg r.toArray) ∧ Below W.heap.size W w' := fun W h1 h2 => by
    rw [hr]; exact rof_any Q Q' key text A A' n c n' c' W h1 h2 (by omega) (by omega)
  have hstr : ∀ W, By W Q A n key → (convert 22 9 (.slice A n c)).run Tryd.prog W = .ok (.string ⟨key.toArray⟩) W := fun W h =>
    run_string_by W 22 9 5 Tryd.underlying22 Tryd.underlying5 Tryd.underlying9 Q A n c key h
  have hstr' : ∀ W, By W Q' A' n' text → (convert 22 9 (.slice A' n' c')).run Tryd.prog W = .ok (.string ⟨text.toArray⟩) W := fun W h =>
    run_string_by W 22 9 5 Tryd.underlying22 Tryd.underlying5 Tryd.underlying9 Q' A' n' c' text h
  have heql : ∀ W, (binOp .eql 28 (.agg r.toArray) (.agg r.toArray)).run Tryd.prog W = .ok (.bool true) W := fun W => by
    rw [hr, tag_eql _ _ (hmac_length _ _) (hmac_length _ _), beq_self_eq_true]
  obtain ⟨ks, hks⟩ : ∃ ks : ByteArray, ks = ⟨key.toArray⟩ := ⟨_, rfl⟩
  obtain ⟨ts, hts⟩ : ∃ ts : ByteArray, ts = ⟨text.toArray⟩ := ⟨_, rfl⟩
  rw [← hks] at hstr
  rw [← hts] at hstr'
  have HOf := Lib.hid hof
  have HROf := Lib.hid hrof
  have HStr := Lib.hid hstr
  have HStr' := Lib.hid hstr'
  clear ht hby hby' hr hof hrof hstr hstr' hks hts
  go_enter Tryd.func4, Tryd.ntmps4
  go_wp2_with (first
    | (go_at_call 12; refine (mfixed_any _ HT.out).mono ?_; rintro e w1 ⟨rfl, hx1⟩; have HX1 := Lib.hid hx1; have HB1 := Lib.hid (HBy.out.through hx1); have HB1' := Lib.hid (HBy'.out.through hx1); clear hx1))
  refine wp_region_held_drew (S := fun W => (By W Q A n key ∧ By W Q' A' n' text) ∧ Below w.heap.size w W) (by kernel_rfl) ⟨⟨HB1.out.drew, HB1'.out.drew⟩, HX1.out.drew⟩ (fun hHeld => ?_)
  change wpAnyH _ _ _ _ _ _ #[false, false, false, false, false, false] _ _
  refine wpAnyH_take (i := 0) (v := (.slice A n c)) rfl (by kernel_rfl) (by kernel_rfl) (by kernel_rfl) (fun _ _ _ h => h) (Or.inl ⟨by kernel_rfl, fun w hSw => ?_⟩) (by assumption) ?_
  · (try dsimp only at hSw); go_simp <;> (try rfl)
  change wpAnyH _ _ _ _ _ _ _ (Act.put _ (some (17 : Nat)) (.slice A n c)) _
  simp only [Act.put, List.setIfInBounds_toArray, List.set_cons_zero, List.set_cons_succ]
  refine wpAnyH_take (i := 1) (v := (.string ks)) rfl (by kernel_rfl) (by kernel_rfl) (by kernel_rfl) (fun _ _ _ h => h) (yields_conv (by kernel_rfl) 22 9 (.tmp 17) rfl (.slice A n c) (by simp [Act.eval]) (.string ks) (fun W hW => HStr.out W hW.1.1)) (by assumption) ?_
  change wpAnyH _ _ _ _ _ _ _ (Act.put _ (some (18 : Nat)) (.string ks)) _
  simp only [Act.put, List.setIfInBounds_toArray, List.set_cons_zero, List.set_cons_succ]
  refine wpAnyH_take (i := 2) (v := (.slice A' n' c')) rfl (by kernel_rfl) (by kernel_rfl) (by kernel_rfl) (fun _ _ _ h => h) (Or.inl ⟨by kernel_rfl, fun w hSw => ?_⟩) (by assumption) ?_
  · (try dsimp only at hSw); go_simp <;> (try rfl)
  change wpAnyH _ _ _ _ _ _ _ (Act.put _ (some (19 : Nat)) (.slice A' n' c')) _
  simp only [Act.put, List.setIfInBounds_toArray, List.set_cons_zero, List.set_cons_succ]
  refine wpAnyH_take (i := 3) (v := (.string ts)) rfl (by kernel_rfl) (by kernel_rfl) (by kernel_rfl) (fun _ _ _ h => h) (yields_conv (by kernel_rfl) 22 9 (.tmp 19) rfl (.slice A' n' c') (by simp [Act.eval]) (.string ts) (fun W hW => HStr'.out W hW.1.2)) (by assumption) ?_
  change wpAnyH _ _ _ _ _ _ _ (Act.put _ (some (20 : Nat)) (.string ts)) _
  simp only [Act.put, List.setIfInBounds_toArray, List.set_cons_zero, List.set_cons_succ]
  refine wpAnyH_take (i := 4) (v := (.string ks)) rfl (by kernel_rfl) (by kernel_rfl) (by kernel_rfl) (fun _ _ _ h => h) (Or.inl ⟨by kernel_rfl, fun w hSw => ?_⟩) (by assumption) ?_
  · (try dsimp only at hSw); go_simp <;> (try rfl)
  change wpAnyH _ _ _ _ _ _ _ (Act.put _ (some (5 : Nat)) (.string ks)) _
  simp only [Act.put, List.setIfInBounds_toArray, List.set_cons_zero, List.set_cons_succ]
  refine wpAnyH_take (i := 5) (v := (.string ts)) rfl (by kernel_rfl) (by kernel_rfl) (by kernel_rfl) (fun _ _ _ h => h) (Or.inl ⟨by kernel_rfl, fun w hSw => ?_⟩) (by assumption) ?_
  · (try dsimp only at hSw); go_simp <;> (try rfl)
  change wpAnyH _ _ _ _ _ _ _ (Act.put _ (some (6 : Nat)) (.string ts)) _
  simp only [Act.put, List.setIfInBounds_toArray, List.set_cons_zero, List.set_cons_succ]
  refine wpAnyH_done (by kernel_rfl) ?_ _
  obtain ⟨w2, hw2⟩ : ∃ w2 : World, w2 = w1.drew := ⟨_, rfl⟩
  rw [← hw2]
  have HX2 : Hid (Below w.heap.size w w2) := Lib.hid (by rw [hw2]; exact HX1.out.drew)
  clear hw2 hHeld
  go_wp2_with (first
    | (go_at_call 13; (with_reducible refine (HOf.out _ (HBy.out.through HX2.out) (HBy'.out.through HX2.out) (HT.out.through HX2.out)).mono ?_); rintro e w3 ⟨rfl, hb3⟩; have HX3 := Lib.hid (HX2.out.trans (hb3.mono HX2.out.size)); clear hb3)
    | (go_at_call 14; (with_reducible refine (HROf.out _ (HBy.out.through HX3.out) (HBy'.out.through HX3.out)).mono ?_); rintro e w4 ⟨rfl, hb4⟩; have HX4 := Lib.hid (HX3.out.trans (hb4.mono HX3.out.size)); have hs4 := HStr.out w4 (HBy.out.through HX4.out); have hs4' := HStr'.out w4 (HBy'.out.through HX4.out); clear hb4))
  go_ret
  exact ⟨rfl, HX4.out⟩

end Go.Proofs.YtolildehdibpbaaDoor
