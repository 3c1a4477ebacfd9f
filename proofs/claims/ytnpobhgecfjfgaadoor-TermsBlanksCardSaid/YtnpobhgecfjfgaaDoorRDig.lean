/-
  The document's Digits.
-/
import Derived.Test.YtnpobhgecfjfgaaDoorRN
import Derived.Deep.RegionWith
namespace Go.Proofs.YtnpobhgecfjfgaaDoor
open Go.RowKit

theorem dg_byte (n : Nat) (h : n < 10) : ((dg n).toNat : Int) = 48 + (n : Int) := by
  have : ∀ m : Fin 10, (dg m.val).toNat = 48 + m.val := by decide
  have h2 := this ⟨n, h⟩
  simp only at h2
  omega
theorem str_at {w : World} {g : Nat} {x : UInt8} (hB : Blk w g 5 [.int .u8 (x.toNat : Int)]) : (Go.convert 36 9 (.slice (some ⟨g, 0, none⟩) 1 1)).run Tryd.prog w = .ok (.string (ba [x])) w := by
  refine run_convert_bytes_back (P := Tryd.prog) _ 36 9 5 ⟨g, 0, none⟩ 1 [x] Tryd.underlying36 Tryd.underlying5 Tryd.underlying9 (fun j hj => ?_)
  match j, hj with
  | 0, _ => exact hB.cellAt rfl
theorem str_one (w : World) (x : UInt8) : (Go.convert 36 9 (.slice (some ⟨w.heap.size, 0, none⟩) 1 1)).run Tryd.prog (w.alloc (.cells #[.int .u8 (x.toNat : Int)] 5)) = .ok (.string (ba [x])) (w.alloc (.cells #[.int .u8 (x.toNat : Int)] 5)) := by
  refine run_convert_bytes_back (P := Tryd.prog) _ 36 9 5 ⟨w.heap.size, 0, none⟩ 1 [x] Tryd.underlying36 Tryd.underlying5 Tryd.underlying9 (fun j hj => ?_)
  have hB : Blk (w.alloc (.cells #[.int .u8 (x.toNat : Int)] 5)) w.heap.size 5 [.int .u8 (x.toNat : Int)] := Blk.fresh rfl rfl
  match j, hj with
  | 0, _ => exact hB.cellAt rfl

set_option maxHeartbeats 2000000 in
set_option maxRecDepth 100000 in
theorem digits_1 (n : Nat) (hn : n < 10) (w : World) :
    Calls Tryd.prog 40 #[.int .i64 (n : Int)] w fun e w' => e = .returned (.string (ba (digs n))) ∧ Below w.heap.size w w' := by
  rw [digs_one hn]
  have hb := dg_byte n hn
  have hs := str_one w (dg n)
  rw [hb] at hs
  obtain ⟨x, hx⟩ : ∃ x, dg n = x := ⟨_, rfl⟩
  rw [hx] at hs ⊢
  clear hx hb
  have HX : Hid (Below w.heap.size w (w.alloc (.cells #[.int .u8 (48 + (n : Int))] 5))) := Lib.hid ((Below.refl _ w).alloc (Nat.le_refl _) _)
  go_enter Tryd.func40, Tryd.ntmps40
  go_wp2
  go_ret
  exact ⟨rfl, HX.out⟩

theorem ba_append (a b : List UInt8) : ba a ++ ba b = ba (a ++ b) := by
  apply ByteArray.ext
  simp [ba]

set_option maxHeartbeats 8000000 in
set_option maxRecDepth 100000 in
theorem digits_any (n : Nat) (hn : n < 100) (w : World) :
    Calls Tryd.prog 40 #[.int .i64 (n : Int)] w fun e w' => e = .returned (.string (ba (digs n))) ∧ Below w.heap.size w w' := by
  by_cases h10 : n < 10
  · exact digits_1 n h10 w
  · have hd : digs n = digs (n / 10) ++ [dg (n % 10)] := by rw [digs, if_neg h10]
    rw [hd]
    have hb := dg_byte (n % 10) (by omega)
    have hs : ∀ W : World, (Go.convert 36 9 (.slice (some ⟨W.heap.size, 0, none⟩) 1 1)).run Tryd.prog (W.alloc (.cells #[.int .u8 (48 + ((n % 10 : Nat) : Int))] 5)) = .ok (.string (ba [dg (n % 10)])) (W.alloc (.cells #[.int .u8 (48 + ((n % 10 : Nat) : Int))] 5)) := fun W => by rw [← hb]; exact str_one W (dg (n % 10))
    have ha : ∀ (W : World) (g : Nat), Blk W g 5 [.int .u8 (48 + ((n % 10 : Nat) : Int))] → (Go.convert 36 9 (.slice (some ⟨g, 0, none⟩) 1 1)).run Tryd.prog W = .ok (.string (ba [dg (n % 10)])) W := fun W g h => by rw [← hb] at h; exact str_at h
    have hq : ∀ W, Calls Tryd.prog 40 #[.int .i64 ((n / 10 : Nat) : Int)] W fun e w' => e = .returned (.string (ba (digs (n / 10)))) ∧ Below W.heap.size W w' := fun W => digits_1 (n / 10) (by omega) W
    obtain ⟨q, hqq⟩ : ∃ q : Int, ((n / 10 : Nat) : Int) = q := ⟨_, rfl⟩
    obtain ⟨r, hrr⟩ : ∃ r : Int, ((n % 10 : Nat) : Int) = r := ⟨_, rfl⟩
    have e1 : (n : Int) / 10 = q := by omega
    have hq0 : 0 ≤ q ∧ q < 10 := by omega
    have hr0 : 0 ≤ r ∧ r < 10 := by omega
    have e3 : (n : Int).tmod 10 = r := by rw [Int.tmod_eq_emod_of_nonneg (by omega)]; omega
    have e2 : IntKind.i64.wrap q = q := by unfold IntKind.wrap; simp [IntKind.signed, IntKind.bits]; omega
    have e4 : IntKind.i64.wrap (48 + r) = 48 + r := by unfold IntKind.wrap; simp [IntKind.signed, IntKind.bits]; omega
    have e5 : IntKind.u8.wrap (48 + r) = 48 + r := by unfold IntKind.wrap; simp [IntKind.signed, IntKind.bits]; omega
    rw [hqq] at hq
    rw [hrr] at hs ha
    have HQ := Lib.hid hq
    obtain ⟨x, hx⟩ : ∃ x, dg (n % 10) = x := ⟨_, rfl⟩
    obtain ⟨d, hd⟩ : ∃ d, digs (n / 10) = d := ⟨_, rfl⟩
    have hdl : d.length = 1 := by rw [← hd, digs_one (by omega)]; rfl
    have hsz := ba_size
    rw [hd] at HQ ⊢
    rw [hx] at hs ha ⊢
    have HS := Lib.hid hs
    have HA := Lib.hid ha
    have hs0 : (Go.convert 36 9 (.slice (some ⟨w.heap.size, 0, none⟩) 1 1)).run Tryd.prog (w.alloc (.cells #[.int .u8 (48 + r)] 5)).drew = .ok (.string (ba [x])) (w.alloc (.cells #[.int .u8 (48 + r)] 5)).drew := hs w.drew
    clear hx hb hq hs ha hd hqq hrr
    have happ := ba_append
    go_enter Tryd.func40, Tryd.ntmps40
    go_wp2
    go_region_with (go_at_call 40; (with_reducible refine (HQ.out _).mono ?_); rintro e w1 ⟨rfl, hb⟩; have HX1 := Lib.hid hb; (first | (have hs1 := HS.out w1; have hs2 : (Go.convert 36 9 (.slice (some ⟨w.heap.size, 0, none⟩) 1 1)).run Tryd.prog w1 = .ok (.string (ba [x])) w1 := HA.out w1 w.heap.size (Blk.through (by first | exact Blk.fresh rfl rfl | exact Blk.fresh (by simp) rfl) hb)) | (have hs1 := HS.out w1)); clear hb)
    all_goals go_wp2
    all_goals go_ret
    all_goals first
      | exact ⟨rfl, (below_step ((Below.refl _ w).drew) HX1.out).alloc (by have := HX1.out.size; simpa using this) _⟩
      | exact ⟨rfl, below_step (((Below.refl _ w).alloc (Nat.le_refl _) _).drew) HX1.out⟩

end Go.Proofs.YtnpobhgecfjfgaaDoor
