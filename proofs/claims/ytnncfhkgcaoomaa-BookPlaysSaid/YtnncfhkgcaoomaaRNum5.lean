/-
  The document's number: a first byte, and a number at the end.
-/
import Derived.Test.YtnncfhkgcaoomaaBookW
import Derived.IntWalk
import Derived.RegionTactic
import Derived.ChangeAlike
import Derived.StillTailTactics
import Derived.Deep.QuietTactic
import Derived.Outline
namespace Go.Proofs.Ytnncfhkgcaoomaa
open Go.RowKit

theorem beB_cons (v k : Nat) : beB v (k + 1) = UInt8.ofNat (v / 256 ^ k) :: beB v k := by
  induction k generalizing v with
  | zero => simp [beB]
  | succ k ih =>
    rw [beB, ih, Nat.div_div_eq_div_mul, ← Nat.pow_succ', List.cons_append]
    rfl
/-- The row, j bytes of the number in. -/
def numJ (f : UInt8) (n j : Nat) : List UInt8 := f :: (List.replicate (31 - j) 0 ++ beB n j)
theorem numJ_0 (f : UInt8) (n : Nat) : numJ f n 0 = f :: List.replicate 31 0 := by simp [numJ, beB]
theorem numJ_8 (f : UInt8) (n : Nat) : numJ f n 8 = numB f n := rfl
theorem numJ_length (f : UInt8) (n j : Nat) (hj : j ≤ 31) : (numJ f n j).length = 32 := by simp [numJ, beB_length]; omega
theorem numJ_set (f : UInt8) (n j : Nat) (hj : j < 31) : (vs (numJ f n j)).set (31 - j) (u8 (UInt8.ofNat (n / 256 ^ j))) = vs (numJ f n (j + 1)) := by
  obtain ⟨m, rfl, hm⟩ : ∃ m, j = 30 - m ∧ m ≤ 30 := ⟨30 - j, by omega, by omega⟩
  have e1 : 31 - (30 - m) = m + 1 := by omega
  have e2 : 31 - (30 - m + 1) = m := by omega
  unfold numJ
  rw [e1, e2, beB_cons]
  simp only [vs, List.map_cons, List.map_append, List.map_replicate, List.set_cons_succ]
  rw [List.set_append_left _ _ (by simp)]
  have e3 : (List.replicate (m + 1) (u8 0)).set m (u8 (UInt8.ofNat (n / 256 ^ (30 - m)))) = List.replicate m (u8 0) ++ [u8 (UInt8.ofNat (n / 256 ^ (30 - m)))] := by
    rw [List.replicate_succ', List.set_append_right _ _ (by simp)]
    simp
  rw [e3]
  simp

theorem run_index_32 (W : World) (b i : Nat) (hi : i < 32) : (Instr.indexAt 34 (.pointer (some ⟨b, 0, none⟩)) (.int .i64 (i : Int))).run Try.prog W = .ok (.pointer (some ⟨b, i, none⟩)) W := by
  have hsz : (sizeOf 5).run Try.prog W = .ok 1 W := by kernel_rfl
  have he : Try.prog.elem 34 = 5 := by kernel_rfl
  have hal : Try.prog.arrayLen 34 = 32 := by kernel_rfl
  have ea : (⟨b, 0, none⟩ : Addr).add i = ⟨b, i, none⟩ := by unfold Addr.add; split <;> simp_all
  rw [run_indexAt_array (P := Try.prog) W 34 ⟨b, 0, none⟩ .i64 i (by rw [he, hal]; exact Try.underlying34), hal, if_pos ⟨by omega, by omega⟩, he, hsz]
  simp only [Result.andThen_ok, Int.toNat_natCast, Nat.mul_one]
  rw [ea]

set_option maxHeartbeats 2000000 in
set_option maxRecDepth 100000 in
theorem rnum5_any (f : UInt8) (n : Nat) (hn : n < 9223372036854775808) (w : World) :
    Calls Try.prog 21 #[.int .u8 (f.toNat : Int), .int .i64 (n : Int)] w fun e w' => e = .returned (.agg (vs (numB f n)).toArray) ∧ Below w.heap.size w w' := by
  have hsz : ∀ W : World, (sizeOf 5).run Try.prog W = .ok 1 W := fun W => by kernel_rfl
  have hz : (vs zero32).set 0 (.int .u8 (f.toNat : Int)) = vs (numJ f n 0) := by rw [numJ_0]; rfl
  have hfin : vs (numJ f n 8) = vs (numB f n) := rfl
  obtain ⟨r, hr⟩ : ∃ r, r = vs (numB f n) := ⟨_, rfl⟩
  have hrl : r.length = 32 := by rw [hr, vs_length, numB_length]
  have hro : r.toArray.all (·.oneCell') = true := by rw [hr]; exact one_u8
  rw [← hr] at hfin ⊢
  have HRl := Lib.hid hrl
  have HRo := Lib.hid hro
  have HF := Lib.hid hfin
  have HZ := Lib.hid hz
  clear hr hrl hro hfin hz
  go_enter Try.func21, Try.ntmps21
  go_wp2_with (refine wpList_store_cell rfl 5 (.tmp 8) (.tmp 7) rfl (w.heap.size + 1) 0 rfl (.int .u8 (f.toNat : Int)) rfl rfl rfl hsz 34 (vs zero32) (Blk.fresh (by simp) (by kernel_rfl)) (by decide) ?_; intro w1 hb1 ho1; rw [HZ.out] at hb1; have HB1 := Lib.hid hb1; have HA1 : Hid (Blk w1 w.heap.size 34 (vs zero32)) := Lib.hid (((Blk.fresh rfl (by kernel_rfl)).alloc _).grown ho1 (fun e => absurd (Option.some.inj e) (by omega))); have HX1 : Hid (Below w.heap.size w w1) := Lib.hid ((((Below.refl _ w).alloc (Nat.le_refl _) _).alloc (by simp) _).grown ho1 (by simp only [World.size_alloc]; omega) (fun k hk => Option.some.inj hk ▸ Nat.le_succ _)); clear hb1 ho1)
  obtain ⟨b4, hb4⟩ : ∃ b4, b4 = w.heap.size := ⟨_, rfl⟩
  rw [← hb4] at HB1 HA1
  rw [← hb4]
  obtain ⟨b5, hb5⟩ : ∃ b5, b5 = b4 + 1 := ⟨_, rfl⟩
  rw [← hb5] at HB1
  rw [← hb5]
  have h45 : b4 ≠ b5 := by omega
  have hw4 : w.heap.size ≤ b4 := by omega
  have hw5 : w.heap.size ≤ b5 := by omega
  clear hb4 hb5
  go_loopw [1, 6] (fun nv iv wr => ∃ j : Nat, j ≤ 8 ∧ nv = .int .i64 ((n / 256 ^ j : Nat) : Int) ∧ iv = .int .i64 ((31 - j : Nat) : Int) ∧ Blk wr b5 34 (vs (numJ f n j)) ∧ Blk wr b4 34 (vs zero32) ∧ Below w.heap.size w wr) (fun _ iv _ => (intOf iv).toNat)
  case atStart => exact ⟨0, by omega, by simp, rfl, HB1.out, HA1.out, HX1.out⟩
  case round =>
    obtain ⟨j, hj, rfl, rfl, hb, ha, hx⟩ := hrel
    have HB := Lib.hid hb
    have HA := Lib.hid ha
    have HX := Lib.hid hx
    have hc63 : n / 256 ^ j < 9223372036854775808 := Nat.lt_of_le_of_lt (Nat.div_le_self _ _) hn
    have hsc : n / 256 ^ (j + 1) = n / 256 ^ j / 256 := by rw [Nat.pow_succ, Nat.div_div_eq_div_mul]
    have hset := numJ_set f n j (by omega)
    clear hb ha hx HB1 HA1 HX1
    by_cases hlt : j < 8
    · obtain ⟨c, hc⟩ : ∃ c, c = n / 256 ^ j := ⟨_, rfl⟩
      rw [← hc] at hc63 hsc hset ⊢
      have hw8 : IntKind.u8.wrap (c : Int) = ((UInt8.ofNat c).toNat : Int) := by
        simp only [IntKind.wrap, IntKind.bits, IntKind.signed]
        rw [UInt8.toNat_ofNat']
        simp
      have hm8 : (c : Int) % 256 = ((UInt8.ofNat c).toNat : Int) := by
        rw [UInt8.toNat_ofNat']
        omega
      have hq : (c : Int).tdiv 256 = ((c / 256 : Nat) : Int) := by
        rw [Int.tdiv_eq_ediv_of_nonneg (by omega)]
        omega
      have hqw : IntKind.i64.wrap ((c : Int).tdiv 256) = ((c / 256 : Nat) : Int) := by
        rw [hq]
        exact IntWalk.i64_in _ (by omega)
      have hi1 : ((31 - j : Nat) : Int) > 23 := by omega
      have hd1 : decide (23 < ((31 - j : Nat) : Int)) = true := by simp; omega
      have hlen : 31 - j < (vs (numJ f n j)).length := by rw [vs_length, numJ_length _ _ _ (by omega)]; omega
      generalize (UInt8.ofNat c) = bc at *
      obtain ⟨i, hi⟩ : ∃ i, i = 31 - j := ⟨_, rfl⟩
      rw [← hi] at hi1 hd1 hlen hset ⊢
      have hi2 : i < 32 := by omega
      have hix := fun W => run_index_32 W b5 i hi2
      have hpi : ((31 - (j + 1) : Nat) : Int) = (i : Int) - 1 := by omega
      have hd1 : decide (23 < (i : Int)) = true := by simp; omega
      have hmi : (i : Int).toNat = i := rfl
      have hmj : 0 < i := by omega
      have HPi := Lib.hid hpi
      have HSc := Lib.hid hsc
      clear hc hi hpi hsc
      go_wp2_with (refine wpList_store_cell rfl 5 (.tmp 16) (.tmp 15) rfl b5 i rfl (.int .u8 (bc.toNat : Int)) rfl rfl rfl hsz 34 _ HB.out hlen ?_; intro w2 hb2 ho2; rw [show (Value.int .u8 (bc.toNat : Int)) = u8 bc from rfl, hset] at hb2; have HB2 := Lib.hid hb2; have HA2 := Lib.hid (HA.out.grown ho2 (fun e => h45 (Option.some.inj e))); have HX2 := Lib.hid (HX.out.grown ho2 HX.out.size (fun k hk => Option.some.inj hk ▸ hw5)); clear hb2 ho2)
      go_roundw
      case rel => exact ⟨j + 1, by omega, by rw [HSc.out, Int.natCast_ediv]; rfl, by rw [HPi.out], HB2.out, HA2.out, HX2.out⟩
      case measure => simp [intOf]; omega
    · obtain rfl : j = 8 := by omega
      have hb8 := HB.out
      rw [HF.out] at hb8
      have HB8 := Lib.hid hb8
      clear hb8 hset
      go_wp2_with (first
        | (refine wpList_load_blk rfl 34 (.tmp 5) rfl b5 rfl 34 r _ HB8.out Try.underlying34 rfl (by rw [HRl.out]; kernel_rfl) ?_)
        | (refine wpList_store_row rfl 34 (.tmp 4) (.tmp 19) rfl b4 r.toArray rfl rfl 34 (vs zero32).toArray HA.out (by rw [List.size_toArray, HRl.out]; kernel_rfl) (by rw [List.size_toArray, List.size_toArray, HRl.out]; rfl) HRo.out ?_))
      refine bodyPost_ret (v := .agg r.toArray) (results_cell_row rfl _ _ b4 34 _ (0, 0) _ rfl (HA.out.row _) Try.underlying34 rfl ?r1) rfl ⟨rfl, below_row HX.out _ hw4 _⟩
      rw [List.size_toArray, HRl.out]; kernel_rfl

end Go.Proofs.Ytnncfhkgcaoomaa
