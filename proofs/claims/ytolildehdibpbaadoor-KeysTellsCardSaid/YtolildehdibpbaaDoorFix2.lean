/-
  Sum of bytes; the facts that stand ahead of each statement.
-/
import Derived.Test.YtolildehdibpbaaDoorSum
import Derived.Lib.SlBytesConst
import Derived.Outline
namespace Go.Proofs.YtolildehdibpbaaDoor
open Go.RowKit

set_option maxHeartbeats 1000000 in
theorem sumb_any (Q : Nat → Prop) (xs : List UInt8) (A : Option Addr) (n c : Nat) (w : World) (hby : By w Q A n xs) (hnc : n ≤ c) (hcm : c ≤ maxLen) (ht : Tab w) (hlen : n ≤ 549755813888) :
    Calls Tryd.prog 10 #[.slice A n c] w fun e w' => e = .returned (dig (sha xs)) ∧ Below w.heap.size w w' := by
  have hl := hby.len
  have HL := Lib.hid hl
  have HBy : Hid (By w (· ≠ w.heap.size + 1) A n xs) := Lib.hid (hby.lt.weak (fun k hk e => by have := hk.2; omega))
  have HT := Lib.hid ht
  have HG0 := Lib.hid ht.lt.1
  have HG1 := Lib.hid ht.lt.2
  have hsl := sha_length xs
  obtain ⟨r, hr⟩ : ∃ r, r = vs (sha xs) := ⟨_, rfl⟩
  have hrl : r.length = 32 := by rw [hr, vs_length, hsl]
  have hone : r.toArray.all (·.oneCell') = true := by rw [hr]; exact one_u8
  have hfin : dig (sha xs) = .agg r.toArray := by rw [hr]; rfl
  have hsum : ∀ W, HS W (w.heap.size + 1) xs → Tab W → Calls Tryd.prog 28 #[.pointer (some ⟨w.heap.size + 1, 0, none⟩)] W fun e w' => e = .returned (.agg r.toArray) ∧ Below W.heap.size W w' := fun W h1 h2 => by
    rw [← hfin]; exact sum_any (w.heap.size + 1) xs W h1 h2 (by rw [hl]; exact hlen)
  rw [hfin]
  have HSum := Lib.hid hsum
  have HRl := Lib.hid hrl
  have HO := Lib.hid hone
  clear hl hby ht hsl hr hrl hone hfin hsum
  go_enter Tryd.func10, Tryd.ntmps10
  go_wp2_with (first
    | (go_at_call 26; refine (new_any _).mono ?_; rintro e w1 ⟨rfl, hs1, hb1⟩; have hz1 : Blk w1 w.heap.size 25 (vs zero32) := (Blk.fresh rfl (by kernel_rfl)).through hb1; have hx1 : Below w.heap.size w w1 := ((Below.refl _ w).alloc (Nat.le_refl _) _).trans (hb1.mono (by simp)); have HS1 : Hid (HS w1 (w.heap.size + 1) []) := Lib.hid (by simpa using hs1); have HZ1 := Lib.hid hz1; have HX1 := Lib.hid hx1; clear hs1 hb1 hz1 hx1)
    | (go_at_call 27; refine (add_any (w.heap.size + 1) [] xs A n c _ (HBy.out.through HX1.out) hnc hcm HS1.out (HT.out.through HX1.out) (Nat.lt_succ_of_lt HG0.out) (Nat.lt_succ_of_lt HG1.out) (by simp; omega)).mono ?_; rintro e w2 ⟨rfl, hs2, ho2⟩; have HS2 := Lib.hid hs2; have HO2 := Lib.hid ho2; clear hs2 ho2)
    | (go_at_call 28; refine (HSum.out _ HS2.out ((HT.out.through HX1.out).only HO2.out (Nat.lt_succ_of_lt HG0.out) (Nat.lt_succ_of_lt HG1.out))).mono ?_; rintro e w3 ⟨rfl, hb3⟩; have HX3 := Lib.hid ((HX1.out.grown HO2.out HX1.out.size (fun k hk => by injection hk with hk; omega)).trans (hb3.mono (Nat.le_trans HX1.out.size HO2.out.size))); have HZ3 := Lib.hid ((HZ1.out.grown HO2.out (by simp)).through hb3); clear hb3)
    | (refine wpList_store_row rfl 25 (.tmp 2) (.tmp 9) rfl w.heap.size r.toArray rfl rfl 25 (vs zero32).toArray HZ3.out (by rw [List.size_toArray, HRl.out]; kernel_rfl) (by rw [List.size_toArray, List.size_toArray, HRl.out]; rfl) HO.out ?_))
  refine bodyPost_ret (v := .agg r.toArray) (results_cell_row rfl _ _ w.heap.size 25 _ (0, 0) _ rfl (HZ3.out.row _) Tryd.underlying25 rfl ?r1) rfl ⟨rfl, below_row HX3.out _ (Nat.le_refl _) _⟩
  rw [List.size_toArray, HRl.out]; kernel_rfl

theorem By.fresh {w : World} {A : Array Value} {e : TypeId} {fr : Nat × Nat} (xs : List UInt8) (h : A = (vs xs).toArray) : By (w.alloc (.cells A e fr)) (fun _ => True) (some ⟨w.heap.size, 0, none⟩) xs.length xs :=
  ⟨rfl, fun _ => ⟨_, 0, rfl, trivial, fun j u hu => by
    subst h
    rw [Nat.zero_add, cell_of_row _ w.heap.size _ _ _ _ (heap_alloc_new w _), List.getElem?_toArray, vs_get, hu]
    rfl⟩⟩
def abc : List UInt8 := [97, 98, 99]
theorem abc_at (j : Nat) (v : UInt8) (h : (sha abc)[j]? = some v) : (vs (sha abc))[j]? = some (.int .u8 (v.toNat : Int)) := by
  rw [vs_get, h]; rfl
theorem abc_4 : (sha abc)[0]? = some 186 ∧ (sha abc)[1]? = some 120 ∧ (sha abc)[2]? = some 22 ∧ (sha abc)[3]? = some 191 := by
  have h := sha_abc
  have e : ∀ j, j < 4 → (sha abc)[j]? = ((sha abc).take 4)[j]? := fun j hj => by rw [List.getElem?_take, if_pos hj]
  refine ⟨?_, ?_, ?_, ?_⟩ <;> (rw [e _ (by omega)]; show ((sha [97, 98, 99]).take 4)[_]? = _; rw [h]; rfl)

set_option maxHeartbeats 1000000 in
theorem fixed_any (w : World) (ht : Tab w) :
    Calls Tryd.prog 9 #[] w fun e w' => e = .returned (.bool true) ∧ Below w.heap.size w w' := by
  have HT := Lib.hid ht
  obtain ⟨a0, a1, a2, a3⟩ := abc_4
  obtain ⟨r, hr⟩ : ∃ r, r = vs (sha abc) := ⟨_, rfl⟩
  have r0 : r[0]? = some (.int .u8 186) := by rw [hr]; exact abc_at 0 186 a0
  have r1 : r[1]? = some (.int .u8 120) := by rw [hr]; exact abc_at 1 120 a1
  have r2 : r[2]? = some (.int .u8 22) := by rw [hr]; exact abc_at 2 22 a2
  have r3 : r[3]? = some (.int .u8 191) := by rw [hr]; exact abc_at 3 191 a3
  have hrl : r.length = 32 := by rw [hr, vs_length, sha_length]
  have hone : r.toArray.all (·.oneCell') = true := by rw [hr]; exact one_u8
  have hsum : ∀ W A, By W (fun _ => True) A 3 abc → Tab W → Calls Tryd.prog 10 #[.slice A 3 3] W fun e w' => e = .returned (.agg r.toArray) ∧ Below W.heap.size W w' := fun W A h1 h2 => by
    have h := sumb_any (fun _ => True) abc A 3 3 W h1 (Nat.le_refl _) (by unfold maxLen; omega) h2 (by omega)
    rw [hr]; exact h
  have ht1 : ∀ W, Calls Tryd.prog 25 #[.int .u32 1, .int .i64 1] W fun e w' => e = .returned (.int .u32 2147483648) ∧ W = w' := fun W => by
    have h := turn_lit 1 1 (by decide) (by decide) W
    have e1 : n32 1 = 1 := rfl
    have e2 : n32 (rotr 1 (Int.toNat 1)) = 2147483648 := by decide +kernel
    rw [e1, e2] at h
    exact h
  have HT1 := Lib.hid ht1
  clear ht1
  have kc := fun (w : World) (C : Array Value) (n c : Nat) => Lib.run_convert_bytes_const (P := Tryd.prog) w 22 5 C n c Tryd.underlying22 Tryd.underlying5
  have HSum := Lib.hid hsum
  have HRl := Lib.hid hrl
  have HO := Lib.hid hone
  have R0 := Lib.hid r0
  have R1 := Lib.hid r1
  have R2 := Lib.hid r2
  have R3 := Lib.hid r3
  clear ht a0 a1 a2 a3 hr r0 r1 r2 r3 hrl hone hsum
  go_enter Tryd.func9, Tryd.ntmps9
  go_wp2_with (first
    | (go_at_call 10; refine (HSum.out _ (some ⟨w.heap.size, 0, none⟩) (by exact By.fresh abc (by kernel_rfl)) (by exact HT.out.through ((Below.refl _ _).alloc (Nat.le_refl _) _))).mono ?_; rintro e w1 ⟨rfl, hb1⟩; have HX1 : Hid (Below w.heap.size w w1) := Lib.hid (((Below.refl _ w).alloc (Nat.le_refl _) _).trans (hb1.mono (by simp))); clear hb1)
    | (refine wpList_store_blk rfl 25 (.tmp 1) (.tmp 4) rfl w1.heap.size r rfl rfl 25 (vs zero32) (Blk.fresh rfl (by kernel_rfl)) (by rw [HRl.out]; kernel_rfl) (by rw [HRl.out]; rfl) HO.out ?_; intro w2 hb2 ho2; have c0 := hb2.cellAt R0.out; have c1 := hb2.cellAt R1.out; have c2 := hb2.cellAt R2.out; have c3 := hb2.cellAt R3.out; have HX2 : Hid (Below w.heap.size w w2) := Lib.hid ((HX1.out.alloc HX1.out.size _).grown ho2 (Nat.le_trans HX1.out.size (by simp)) (fun k hk => Option.some.inj hk ▸ HX1.out.size)); clear hb2 ho2)
    | (go_at_call 25; refine (HT1.out _).mono ?_; rintro e w' ⟨rfl, rfl⟩))
  go_ret
  exact ⟨rfl, HX2.out⟩

end Go.Proofs.YtolildehdibpbaaDoor
