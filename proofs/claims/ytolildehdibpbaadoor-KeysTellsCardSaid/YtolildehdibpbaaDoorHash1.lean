/-
  New, and what stands behind all bytes.
-/
import Derived.Test.YtolildehdibpbaaDoorHashW
import Derived.Test.YtolildehdibpbaaDoorPut
import Derived.Outline
namespace Go.Proofs.YtolildehdibpbaaDoor
open Go.RowKit

theorem Tryd.new_build (w : World) : (Instr.build 77 #[]).run Tryd.prog w = .ok (.agg (hcs S8.zero (List.replicate 64 0) 0).toArray) w := by kernel_rfl

set_option maxHeartbeats 400000 in
theorem new_any (w : World) :
    Calls Tryd.prog 26 #[] w fun e w' => e = .returned (.pointer (some ⟨w.heap.size, 0, none⟩)) ∧ HS w' w.heap.size [] ∧ Below w.heap.size w w' := by
  go_enter Tryd.func26, Tryd.ntmps26
  go_wp2_with (refine wpList_build_to rfl 77 [] rfl [] rfl _ (Tryd.new_build _) ?_)
  go_ret
  exact ⟨rfl, ⟨S8.zero, _, Blk.fresh rfl rfl, HOk.nil⟩, (Below.refl _ w).alloc (Nat.le_refl _) _⟩

/-- The mark and noughts, as a block of the call's own holds them. -/
def markB : List UInt8 := 128 :: List.replicate 63 0
theorem Blk.bytes {w : World} {g : Nat} {t : TypeId} {xs : List UInt8} (h : Blk w g t (vs xs)) : By w (· = g) (some ⟨g, 0, none⟩) xs.length xs :=
  ⟨rfl, fun _ => ⟨g, 0, rfl, rfl, fun j u hu => by rw [Nat.zero_add, h.cell, vs_get, hu]; rfl⟩⟩
theorem mark_ends (n : Nat) : (markB.take (1 + (119 - n % 64) % 64)) ++ beB (8 * n) 8 = ends n := by
  unfold markB ends
  rw [Nat.add_comm 1, List.take_succ_cons, List.cons_append]
  congr 2
  have h : (119 - n % 64) % 64 ≤ 63 := by omega
  rw [List.take_replicate, Nat.min_eq_left h]

set_option maxHeartbeats 1000000 in
set_option maxRecDepth 100000 in
theorem ending_any (n : Nat) (hn : n ≤ 1099511627776) (w : World) :
    Calls Tryd.prog 44 #[.int .i64 n] w (Made w (1 + (119 - n % 64) % 64 + 8) (ends n)) := by
  have he := mark_ends n
  obtain ⟨z, hz⟩ : ∃ z, z = (119 - n % 64) % 64 := ⟨_, rfl⟩
  rw [← hz] at he
  rw [← hz, ← he]
  have hzi : (119 - (n : Int) % 64) % 64 = (z : Int) := by omega
  have hz63 : z ≤ 63 := by omega
  have hw1 : (1 + (z : Int)).toNat = 1 + z := by omega
  have HN : Hid (n ≤ 1099511627776) := Lib.hid hn
  have h8 : (8 * n : Nat) = ((8 * (n : Int)).toNat) := by omega
  rw [h8]
  have hsl := fun (w' : World) => run_sliceArr_h (P := Tryd.prog) w' 58 5 64 ⟨w.heap.size, 0, none⟩ .i64 (1 + (z : Int)) Tryd.underlying58 (by kernel_rfl) (by omega) (by omega)
  rw [hw1] at hsl
  clear hz he h8
  have hB : ∀ W, Blk W w.heap.size 58 (vs markB) → By W (fun _ => True) (some ⟨w.heap.size, 0, none⟩) (1 + z) (markB.take (1 + z)) := fun W h =>
    ((Blk.bytes h).take (k := 1 + z) (by rw [show markB.length = 64 from rfl]; omega)).weak fun _ _ => trivial
  have HB := Lib.hid hB
  clear hB
  go_enter Tryd.func44, Tryd.ntmps44
  go_wp2_with (go_at_call 51; refine (put_8 (fun _ => True) (some ⟨w.heap.size, 0, none⟩) (1 + z) 64 (markB.take (1 + z)) (8 * (n : Int)) (by omega) (by have := HN.out; omega) _ (by exact HB.out _ (Blk.fresh rfl (by kernel_rfl))) (by omega) (by omega)).mono ?_; rintro e w' ⟨v, rfl, hown, hb⟩)
  have O := Lib.hid hown
  have HBe := Lib.hid (((Below.refl _ w).alloc (Nat.le_refl _) _).trans (hb.mono (by simp)))
  clear hown hb
  go_wp2
  go_ret
  exact ⟨v, rfl, own_weak O.out (by simp), HBe.out⟩

end Go.Proofs.YtolildehdibpbaaDoor
