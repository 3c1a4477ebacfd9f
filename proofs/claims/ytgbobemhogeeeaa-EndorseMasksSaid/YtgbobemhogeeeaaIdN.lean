/-
  The document's own book (Ideal): number; what a tag is made for, as a text.
-/
import Derived.Test.YtgbobemhogeeeaaJB
import Derived.Test.YtgbobemhogeeeaaOBy
import Derived.IntWalk
namespace Go.Proofs.Ytgbobemhogeeeaa
open Go.RowKit

/-- The row, i bytes of the number in. -/
def numK (f : UInt8) (n i : Nat) : List UInt8 := f :: (List.replicate 23 0 ++ ((beB n 8).take i ++ List.replicate (8 - i) 0))
theorem numK_8 (f : UInt8) (n : Nat) : numK f n 8 = numB f n := by
  unfold numK numB
  have h : (beB n 8).length = 8 := beB_length n 8
  rw [List.take_of_length_le (by omega)]
  simp
theorem numK_length (f : UInt8) (n i : Nat) (hi : i ≤ 8) : (numK f n i).length = 32 := by
  have h : (beB n 8).length = 8 := beB_length n 8
  simp [numK, h]
  omega
theorem numK_set (f : UInt8) (n i : Nat) (hi : i < 8) (c : UInt8) (hc : (beB n 8)[i]? = some c) : (vs (numK f n i)).set (24 + i) (u8 c) = vs (numK f n (i + 1)) := by
  have h : (beB n 8).length = 8 := beB_length n 8
  unfold numK
  generalize beB n 8 = b at *
  match b, h, i, hi with
  | [b0, b1, b2, b3, b4, b5, b6, b7], _, 0, _ => injection hc with hc; subst hc; rfl
  | [b0, b1, b2, b3, b4, b5, b6, b7], _, 1, _ => injection hc with hc; subst hc; rfl
  | [b0, b1, b2, b3, b4, b5, b6, b7], _, 2, _ => injection hc with hc; subst hc; rfl
  | [b0, b1, b2, b3, b4, b5, b6, b7], _, 3, _ => injection hc with hc; subst hc; rfl
  | [b0, b1, b2, b3, b4, b5, b6, b7], _, 4, _ => injection hc with hc; subst hc; rfl
  | [b0, b1, b2, b3, b4, b5, b6, b7], _, 5, _ => injection hc with hc; subst hc; rfl
  | [b0, b1, b2, b3, b4, b5, b6, b7], _, 6, _ => injection hc with hc; subst hc; rfl
  | [b0, b1, b2, b3, b4, b5, b6, b7], _, 7, _ => injection hc with hc; subst hc; rfl

def zero32' : List UInt8 := List.replicate 32 0
theorem one_u8' {xs : List UInt8} : (vs xs).toArray.all (·.oneCell') = true := all_oneCell_toArray fun v hv => by
  obtain ⟨u, _, rfl⟩ := List.mem_map.1 hv
  rfl
theorem vs_len (xs : List UInt8) : (vs xs).length = xs.length := by simp [vs]
theorem Try.el_by : El Try.prog 40 5 1 1 (.int .u8 0) := ⟨Try.underlying40, by kernel_rfl, rfl, by omega, by omega, by omega⟩
theorem run_index_32' (W : World) (b i : Nat) (hi : i < 32) : (Instr.indexAt 72 (.pointer (some ⟨b, 0, none⟩)) (.int .i64 (i : Int))).run Try.prog W = .ok (.pointer (some ⟨b, i, none⟩)) W := by
  have hsz : (sizeOf 5).run Try.prog W = .ok 1 W := by kernel_rfl
  have he : Try.prog.elem 72 = 5 := by kernel_rfl
  have hal : Try.prog.arrayLen 72 = 32 := by kernel_rfl
  have ea : (⟨b, 0, none⟩ : Addr).add i = ⟨b, i, none⟩ := by unfold Addr.add; split <;> simp_all
  rw [run_indexAt_array (P := Try.prog) W 72 ⟨b, 0, none⟩ .i64 i (by rw [he, hal]; exact Try.underlying72), hal, if_pos ⟨by omega, by omega⟩, he, hsz]
  simp only [Result.andThen_ok, Int.toNat_natCast, Nat.mul_one]
  rw [ea]

theorem By.past_ {w w' : World} {b : Nat} {A : Option Addr} {n : Nat} {xs : List UInt8} (hg : w.grownBy w' (some b)) (h : By w (fun g => b < g) A n xs) : By w' (fun g => b < g) A n xs := ⟨h.1, fun hn => by
  obtain ⟨g, o, e, hb, hc⟩ := h.2 hn
  exact ⟨g, o, e, hb, fun j u hu => hg.cell (hc j u hu) (fun e => by have e2 : g = b := Option.some.inj e; omega)⟩⟩

set_option maxHeartbeats 4000000 in
set_option maxRecDepth 100000 in
theorem rnum6_any (f : UInt8) (n : Nat) (hn : n < 9223372036854775808) (w : World) :
    Calls Try.prog 67 #[.int .u8 (f.toNat : Int), .int .i64 (n : Int)] w fun e w' => e = .returned (.agg (vs (numB f n)).toArray) ∧ Below w.heap.size w w' := by
  have hsz : ∀ W : World, (sizeOf 5).run Try.prog W = .ok 1 W := fun W => by kernel_rfl
  have hz : (vs zero32').set 0 (.int .u8 (f.toNat : Int)) = vs (numK f n 0) := by simp only [numK]; rfl
  have hcv : ∀ W, (Go.convert 3 86 (.int .i64 (n : Int))).run Try.prog W = .ok (.int .u64 (n : Int)) W := fun W => by
    have h9 := conv_u64 (P := Try.prog) 3 86 Try.underlying3 Try.underlying86 (n : Int) W
    have e9 : u64N (n : Int) = n := by unfold u64N; omega
    rw [e9] at h9
    exact h9
  have hpu : ∀ W, Calls Try.prog 47 #[.slice none 0 0, .int .u64 (n : Int), .int .i64 8] W (fun e w' => ∃ A m c, e = .returned (.slice A m c) ∧ By w' (W.heap.size ≤ ·) A m (beB n 8) ∧ Below W.heap.size W w') := fun W => (rput_any (fun _ => True) none 0 0 [] (n : Int) 8 (by omega) (by omega) W By.none_ (by omega)).mono fun e w' hm => by
    rw [Int.toNat_natCast, show putB [] n 8 = [] ++ beB n 8 from putB_wid (k := 8) rfl [] n, List.nil_append] at hm
    obtain ⟨v, he, ho, hb⟩ := hm
    obtain ⟨A, c, rfl, _⟩ := own_form ho
    exact ⟨A, _, c, he, (By.of_own ho).weak fun _ h => h.1, hb⟩
  obtain ⟨r, hr⟩ : ∃ r, r = vs (numB f n) := ⟨_, rfl⟩
  have hrl : r.length = 32 := by rw [hr, vs_len, numB_length]
  have hro : r.toArray.all (·.oneCell') = true := by rw [hr]; exact one_u8'
  have hfin : vs (numK f n 8) = r := by rw [numK_8, hr]
  rw [← hr]
  have HRl := Lib.hid hrl
  have HRo := Lib.hid hro
  have HF := Lib.hid hfin
  have HZ := Lib.hid hz
  have HPu := Lib.hid hpu
  have HL8 := Lib.hid (beB_length n 8)
  obtain ⟨b, hb8⟩ : ∃ b, beB n 8 = b := ⟨_, rfl⟩
  have HK := Lib.hid (fun i hi c (hc : b[i]? = some c) => numK_set f n i hi c (by rw [hb8]; exact hc))
  rw [hb8] at HPu HL8
  clear hr hrl hro hfin hz hpu hb8
  go_enter Try.func67, Try.ntmps67
  go_wp2_with (first
    | (refine wpList_store_cell rfl 5 (.tmp 9) (.tmp 8) rfl (w.heap.size + 1) 0 rfl (.int .u8 (f.toNat : Int)) rfl rfl rfl hsz 72 (vs zero32') (Blk.fresh (by simp) (by kernel_rfl)) (by decide) ?_; intro w1 hb1 ho1; rw [HZ.out] at hb1; have HB1 := Lib.hid hb1; have HA1 : Hid (Blk w1 w.heap.size 72 (vs zero32')) := Lib.hid (Blk.grown ((Blk.fresh (w := w) (cs := vs zero32') rfl (by kernel_rfl)).alloc _) ho1 (by simp)); have HX1 : Hid (Below w.heap.size w w1) := Lib.hid ((((Below.refl _ w).alloc (Nat.le_refl _) _).alloc (by simp) _).grown ho1 (by simp; omega) (fun k hk => by have := Option.some.inj hk; omega)); clear hb1 ho1)
    | (go_at_call 47; (with_reducible refine (HPu.out _).mono ?_); rintro e w2 ⟨A, m, c, rfl, hy, hbw⟩; have HM := Lib.hid (hy.len); have HYb : Hid (By w2 (fun g => w.heap.size + 1 < g) A m b) := Lib.hid (hy.weak fun g hg => Nat.lt_of_lt_of_le HB1.out.lt hg); have HB2 := Lib.hid (HB1.out.through hbw); have HA2 := Lib.hid (HA1.out.through hbw); have HX2 : Hid (Below w.heap.size w w2) := Lib.hid (below_step HX1.out hbw); clear hy hbw))
  obtain ⟨b4, hb4⟩ : ∃ b4, b4 = w.heap.size := ⟨_, rfl⟩
  rw [← hb4] at HB2 HA2 HYb
  rw [← hb4]
  obtain ⟨b5, hb5⟩ : ∃ b5, b5 = b4 + 1 := ⟨_, rfl⟩
  rw [← hb5] at HB2 HYb
  rw [← hb5]
  have h45 : b4 ≠ b5 := by omega
  have hw4 : w.heap.size ≤ b4 := by omega
  have hw5 : w.heap.size ≤ b5 := by omega
  have HM8 : Hid (m = 8) := Lib.hid (by rw [← HM.out, HL8.out])
  clear hb4 hb5 HB1 HA1 HX1
  go_loopw [14] (fun iv wr => ∃ i : Nat, i ≤ 8 ∧ iv = .int .i64 (i : Int) ∧ Blk wr b5 72 (vs (numK f n i)) ∧ Blk wr b4 72 (vs zero32') ∧ Below w.heap.size w wr ∧ By wr (fun g => b5 < g) A m b) (fun iv _ => m - (intOf iv).toNat)
  case atStart => exact ⟨0, by omega, rfl, HB2.out, HA2.out, HX2.out, HYb.out⟩
  case round =>
    obtain ⟨i, hi, rfl, hb, ha, hx, hy⟩ := hrel
    have HB := Lib.hid hb
    have HA := Lib.hid ha
    have HX := Lib.hid hx
    have HYr := Lib.hid hy
    clear hb ha hx hy
    by_cases hlt : i < m
    · have h8 : i < 8 := by rw [← HM8.out]; exact hlt
      obtain ⟨g, o, rfl, hgb, hcell⟩ := HYr.out.2 (by omega)
      obtain ⟨c0, hc0⟩ : ∃ c0, b[i]? = some c0 := ⟨_, List.getElem?_eq_getElem (by rw [HL8.out]; omega)⟩
      have hci := hcell i c0 hc0
      have hset := HK.out i h8 c0 hc0
      have hix := Try.el_by.index (by kernel_rfl) wr g o m c i hlt
      have hix5 : ∀ W, (Instr.indexAt 72 (.pointer (some ⟨b5, 0, none⟩)) (.int .i64 (24 + (i : Int)))).run Try.prog W = .ok (.pointer (some ⟨b5, 24 + i, none⟩)) W := fun W => by
        have h9 := run_index_32' W b5 (24 + i) (by omega)
        have e9 : ((24 + i : Nat) : Int) = 24 + (i : Int) := by omega
        rw [e9] at h9
        exact h9
      have hw1 : IntKind.i64.wrap ((i : Int) + 1) = (i : Int) + 1 := IntWalk.i64_in _ (by omega)
      have hw2 : IntKind.i64.wrap (24 + (i : Int)) = 24 + (i : Int) := IntWalk.i64_in _ (by omega)
      have hlen : 24 + i < (vs (numK f n i)).length := by rw [vs_len, numK_length _ _ _ (by omega)]; omega
      rw [Nat.mul_one] at hix
      have hu : u8 c0 = .int .u8 (c0.toNat : Int) := rfl
      rw [hu] at hci
      have HSet := Lib.hid hset
      have HGb := Lib.hid hgb
      clear hset hcell hc0 hgb hu
      go_wp2_with (refine wpList_store_cell rfl 5 (.tmp 22) (.tmp 21) rfl b5 (24 + i) rfl (.int .u8 (c0.toNat : Int)) rfl rfl rfl hsz 72 _ HB.out hlen ?_; intro w3 hb3 ho3; rw [show (Value.int .u8 (c0.toNat : Int)) = u8 c0 from rfl, HSet.out] at hb3; have HB3 := Lib.hid hb3; have HA3 := Lib.hid (HA.out.grown ho3 (fun e => h45 (Option.some.inj e))); have HX3 : Hid (Below w.heap.size w w3) := Lib.hid (HX.out.grown ho3 HX.out.size (fun k hk => by have := Option.some.inj hk; omega)); have HY3 := Lib.hid (By.past_ ho3 HYr.out); clear hb3 ho3)
      go_roundw
      case rel => exact ⟨i + 1, by omega, by go_num, HB3.out, HA3.out, HX3.out, HY3.out⟩
      case measure => simp [intOf]; omega
    · obtain rfl : i = 8 := by have := HM8.out; omega
      have hb8 := HB.out
      rw [HF.out] at hb8
      have HB8 := Lib.hid hb8
      clear hb8
      go_wp2_with (first
        | (refine wpList_load_blk rfl 72 (.tmp 5) rfl b5 rfl 72 r _ HB8.out Try.underlying72 rfl (by rw [HRl.out]; kernel_rfl) ?_)
        | (refine wpList_store_row rfl 72 (.tmp 4) (.tmp 24) rfl b4 r.toArray rfl rfl 72 (vs zero32').toArray HA.out (by rw [List.size_toArray, HRl.out]; kernel_rfl) (by rw [List.size_toArray, List.size_toArray, HRl.out]; rfl) HRo.out ?_))
      refine bodyPost_ret (v := .agg r.toArray) (results_cell_row rfl _ _ b4 72 _ (0, 0) _ rfl (HA.out.row _) Try.underlying72 rfl ?r1) rfl ⟨rfl, below_row HX.out _ hw4 _⟩
      rw [List.size_toArray, HRl.out]; kernel_rfl

end Go.Proofs.Ytgbobemhogeeeaa
