/-
  The program's keyOf: the key of two.
-/
import Derived.Test.YtolildehdibpbaaDoorKeysW
import Derived.Test.YtolildehdibpbaaDoorMapW
import Derived.Test.YtolildehdibpbaaDoorOf
namespace Go.Proofs.YtolildehdibpbaaDoor
open Go.RowKit

theorem a16_nat (x : Nat) (h : x < 65536) : a16 (x : Int) = x := by unfold a16; omega

set_option maxHeartbeats 2000000 in
set_option maxRecDepth 100000 in
theorem keyOf_any (Q : Nat → Prop) (seed : List UInt8) (x y : Nat) (hx : x < 65536) (hy : y < 65536) (A : Option Addr) (n c : Nat) (w : World) (hby : By w Q A n seed) (hnc : n ≤ c) (hcm : c ≤ maxLen) (ht : Tab w) (hn : n ≤ 1000000) :
    Calls Tryd.prog 38 #[.slice A n c, two x y] w fun e w' => e = .returned (.agg (vs (keyB seed x y)).toArray) ∧ Below w.heap.size w w' := by
  have HBy := Lib.hid hby
  have HT := Lib.hid ht
  obtain ⟨r, hr⟩ : ∃ r, r = vs (keyB seed x y) := ⟨_, rfl⟩
  have hrl : r.length = 32 := by rw [hr, vs_length, keyB_length]
  have hro : r.toArray.all (·.oneCell') = true := by rw [hr]; exact one_u8
  have had : addr (x : Int) (y : Int) [] = pair x y := by simp [addr, a16_nat x hx, a16_nat y hy]
  have hadr : ∀ W, Calls Tryd.prog 41 #[.int .i64 (x : Int), .int .i64 (y : Int), .slice none 0 0] W fun e w' => ∃ A' c', e = .returned (.slice A' 4 c') ∧ w'.ownsRow W.heap.size 5 1 (.slice A' 4 c') 4 (vs (pair x y)) ∧ 4 ≤ c' ∧ c' ≤ maxLen ∧ Below W.heap.size W w' := fun W => by
    have h := addressed_any (fun _ => True) x y [] none 0 0 W By.none_ (by omega)
    rw [had] at h
    exact h
  have hof : ∀ W A' c', By W Q A n seed → By W (fun _ => True) A' 4 (pair x y) → 4 ≤ c' → c' ≤ maxLen → Tab W → Calls Tryd.prog 13 #[.slice A n c, .slice A' 4 c'] W fun e w' => e = .returned (.agg r.toArray) ∧ Below W.heap.size W w' := fun W A' c' h1 h2 h3 h4 h5 => by
    rw [hr]; exact of_any Q _ seed (pair x y) A A' n c 4 c' W h1 hnc hcm h2 h3 h4 h5 (by omega) (by omega)
  have HAdr := Lib.hid hadr
  have HOf := Lib.hid hof
  have HRl := Lib.hid hrl
  have HRo := Lib.hid hro
  rw [← hr]
  clear hby ht hr hrl hro had hadr hof
  unfold two
  go_enter Tryd.func38, Tryd.ntmps38
  go_wp2_with (first
    | (go_at_call 41; (with_reducible refine (HAdr.out _).mono ?_); rintro e w1 ⟨A1, c1, rfl, ho1, hc1, hm1, hb1⟩; have HX1 : Hid (Below w.heap.size w w1) := Lib.hid ((((Below.refl _ w).alloc (Nat.le_refl _) _).alloc (by simp) _).trans (hb1.mono (by simp only [World.size_alloc]; omega))); have HP1 := Lib.hid ((By.of_own ho1).weak (Q' := fun _ => True) fun _ _ => trivial); have HB1 : Hid (Blk w1 (w.heap.size + 1) 28 (vs zero32)) := Lib.hid ((Blk.fresh (by simp) (by kernel_rfl)).through hb1); clear ho1 hb1)
    | (go_at_call 13; (with_reducible refine (HOf.out _ A1 c1 (HBy.out.through HX1.out) HP1.out hc1 hm1 (HT.out.through HX1.out)).mono ?_); rintro e w2 ⟨rfl, hb2⟩; have HX2 := Lib.hid (HX1.out.trans (hb2.mono HX1.out.size)); have HB2 := Lib.hid (HB1.out.through hb2); clear hb2)
    | (refine wpList_store_row rfl 28 (.tmp 4) (.tmp 13) rfl (w.heap.size + 1) r.toArray rfl rfl 28 (vs zero32).toArray HB2.out (by rw [List.size_toArray, HRl.out]; kernel_rfl) (by rw [List.size_toArray, List.size_toArray, HRl.out]; rfl) HRo.out ?_))
  refine bodyPost_ret (v := .agg r.toArray) (results_cell_row rfl _ _ (w.heap.size + 1) 28 _ (0, 0) _ rfl (HB2.out.row _) Tryd.underlying28 rfl ?r1) rfl ⟨rfl, below_row HX2.out _ (Nat.le_succ _) _⟩
  rw [List.size_toArray, HRl.out]; kernel_rfl

end Go.Proofs.YtolildehdibpbaaDoor
