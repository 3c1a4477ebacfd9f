/-
  The document's bytes of a digest.
-/
import Derived.Test.YtolildehdibpbaaDoorMacW
import Derived.Test.YtolildehdibpbaaDoorWd
import Derived.IntWalk
import Derived.Outline
namespace Go.Proofs.YtolildehdibpbaaDoor
open Go.RowKit

theorem take_snoc {xs : List UInt8} {i : Nat} {x : UInt8} (h : xs[i]? = some x) : xs.take (i + 1) = xs.take i ++ [x] := by
  have hi := (List.getElem?_eq_some_iff.1 h).1
  rw [List.take_succ_eq_append_getElem hi, (List.getElem?_eq_some_iff.1 h).2]

set_option maxHeartbeats 2000000 in
set_option maxRecDepth 100000 in
theorem rbytes_any (xs : List UInt8) (hxs : xs.length = 32) (w : World) :
    Calls Tryd.prog 35 #[.agg (vs xs).toArray] w fun e w' => ∃ A c, e = .returned (.slice A 32 c) ∧ w'.ownsRow w.heap.size 5 1 (.slice A 32 c) 32 (vs xs) ∧ Below w.heap.size w w' := by
  obtain ⟨i0, hi, hz0, hz1, hz2⟩ := info_parts Tryd.info_u8
  obtain ⟨q, hq⟩ : ∃ q, q = vs xs := ⟨_, rfl⟩
  have hql : q.length = 32 := by rw [hq, vs_length, hxs]
  have hidx : ∀ (W : World) (i : Nat) (x : UInt8), i < 32 → xs[i]? = some x → (Instr.index 25 (.agg q.toArray) (.int .i64 (i : Int))).run Tryd.prog W = .ok (.int .u8 (x.toNat : Int)) W := fun W i x h1 h2 =>
    run_index_row W 25 5 32 q .i64 i (u8 x) Tryd.underlying25 (by kernel_rfl) (by kernel_rfl) h1 (by rw [hq, vs_get, h2]; rfl)
  rw [← hq]
  have HQl := Lib.hid hql
  have HIdx := Lib.hid hidx
  have HQ := Lib.hid hq
  clear hql hidx hq
  go_enter Tryd.func35, Tryd.ntmps35
  go_wp2_with (refine wpList_load_blk rfl 25 (.tmp 1) rfl w.heap.size rfl 25 q _ (Blk.fresh rfl rfl) Tryd.underlying25 rfl (by rw [HQl.out]; kernel_rfl) ?_)
  go_loopw [3, 7] (fun ov iv wr => ∃ (i : Nat) (A : Option Addr) (c : Nat), i ≤ 32 ∧ iv = .int .i64 i ∧ ov = .slice A i c ∧ wr.ownsRow w.heap.size 5 1 (.slice A i c) i (vs (xs.take i)) ∧ Below w.heap.size w wr) (fun _ iv _ => 32 - (intOf iv).toNat)
  case atStart => exact ⟨0, none, 0, by omega, rfl, rfl, World.ownsRow_nil _ _ _ _, (Below.refl _ w).alloc (Nat.le_refl _) _⟩
  case round =>
    obtain ⟨i, A, c, hi32, rfl, rfl, ho, hx⟩ := hrel
    by_cases hlt : i < 32
    · as_aux_lemma =>
      have hix : i < xs.length := by rw [hxs]; exact hlt
      have hget := List.getElem?_eq_getElem hix
      generalize xs[i] = x at hget
      have hidx := fun W => HIdx.out W i x hlt hget
      have HNext := Lib.hid (take_snoc hget)
      have HO := Lib.hid ho
      have HX := Lib.hid hx
      clear ho hx hget hix
      go_wp2_with (at_builtin; refine wpList_append_by _ rfl (.tmp 10) (.tmp 12) 22 rfl w.heap.size i0 Tryd.underlying22 hi hz0 hz1 hz2 (.slice A i c) i (vs (xs.take i)) rfl (HO.out.alloc _) (fun _ => True) (some ⟨wr.heap.size, 0, none⟩) 1 1 [x] rfl (By.one8 _ trivial) (by omega) (by have := HX.out.size; simp; omega) ?_; intro v6 w6 hown6 hgrow6 _; have HX6 := Lib.hid ((HX.out.alloc HX.out.size _).grown hgrow6 (Nat.le_trans HX.out.size (by simp)) (fun g hg => (HO.out.lt g hg).1)); obtain ⟨A6, c6, rfl, _, _, _⟩ := own_form hown6; have HO6 : Hid (w6.ownsRow w.heap.size 5 1 (.slice A6 (i + 1) c6) (i + 1) (vs (xs.take (i + 1)))) := Lib.hid (by rw [vs_append, ← HNext.out] at hown6; exact hown6); clear hown6 hgrow6)
      go_roundw
      case rel => exact ⟨i + 1, A6, c6, by omega, by go_num, rfl, HO6.out, HX6.out⟩
      case measure => simp [intOf]; omega
    · as_aux_lemma =>
      have e32 : i = 32 := by omega
      subst e32
      rw [List.take_of_length_le (by omega)] at ho
      have HO := Lib.hid ho
      have HX := Lib.hid hx
      clear ho hx
      go_wp2
      go_ret
      exact ⟨A, c, rfl, by rw [HQ.out]; exact HO.out, HX.out⟩

end Go.Proofs.YtolildehdibpbaaDoor
