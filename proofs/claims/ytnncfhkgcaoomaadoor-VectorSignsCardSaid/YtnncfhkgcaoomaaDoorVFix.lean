/-
  The facts that stand ahead of each statement of vector.
-/
import Derived.Test.YtnncfhkgcaoomaaDoorVBook
namespace Go.Proofs.YtnncfhkgcaoomaaDoor
open Go.RowKit

def tx4 : List UInt8 := kb 2 :: [120]
def ts4 : List TK := acc 0 tx4 (upTo 4) [] 4
def tgs4 : List (List UInt8) := (List.range 4).map (made 0 tx4 (upTo 4) [] 4)
theorem tgs4_at : tgs4[3]? = some (bookTag ts4 (0, 3, tx4)) := rfl
theorem By.lit120 {w : World} {e : TypeId} {fr : Nat × Nat} : By (w.alloc (.cells #[.int .u8 120] e fr)) (fun _ => True) (some ⟨w.heap.size, 0, none⟩) 1 [120] := By.fresh [120] rfl

set_option maxHeartbeats 8000000 in
set_option maxRecDepth 100000 in
theorem vfixed_any (w : World) :
    Calls Tryd.prog 4 #[] w fun e w' => e = .returned (.bool true) ∧ Below w.heap.size w w' := by
  have kc := fun (w : World) (C : Array Value) (n c : Nat) => Lib.run_convert_bytes_const (P := Tryd.prog) w 22 5 C n c Tryd.underlying22 Tryd.underlying5
  have hmem : ((0, 3, tx4) : TK) ∈ ts4 := (acc_mem (f := 0) (text := tx4) (tos := upTo 4) (ts := []) (i := 3) (n := 4) (by decide)).1
  have hln : ts4.length ≤ 4 := by have := acc_length 0 tx4 (upTo 4) [] 4; exact this
  have hl8 : Long32 tgs4 := fun t ht => by
    obtain ⟨k, _, rfl⟩ := List.mem_map.1 ht
    exact numB_length _ _
  have hall : ∀ W, Calls Tryd.prog 12 #[.int .i64 4] W fun e w' => ∃ b, e = .returned (.slice (some ⟨b, 0, none⟩) 4 4) ∧ Iv w' (fun k => k = b) (some ⟨b, 0, none⟩) 4 (upTo 4) ∧ W.heap.size ≤ b ∧ Below W.heap.size W w' := fun W => by
    refine (all_some 4 (by omega) (by omega) W).mono ?_
    rintro e w' ⟨rfl, h1, h2⟩
    exact ⟨_, rfl, h1, Nat.le_refl _, h2⟩
  have hsign : ∀ W g B A, BS W g [] [] → By W (fun _ => True) B 1 [120] → Iv W (fun k => k ≠ g) A 4 (upTo 4) → Calls Tryd.prog 7 #[.iface 30 (.pointer (some ⟨g, 0, none⟩)), .int .i64 2, .int .i64 0, .slice B 1 1, .slice A 4 4] W fun e w' => ∃ B1 c1 A1 c2, e = .returned (.agg #[.int .i64 2, .int .i64 0, .slice B1 1 c1, .slice A1 4 c2]) ∧
      By w' (fun b => W.heap.size ≤ b) B1 1 [120] ∧ Tg w' A1 4 tgs4 ∧ (∀ o, A1 = some o → W.heap.size ≤ o.block) ∧ BS w' g [] ts4 ∧ KF g W w' := fun W g B A h1 h2 h3 =>
    sign_book g [] [] 2 0 [120] (upTo 4) _ _ (fun _ h => h) B 1 1 (by omega) A 4 4 (by omega) (by simp) W h1 h2 h3
  have htext : ∀ W B, By W (fun _ => True) B 1 [120] → Calls Tryd.prog 8 #[.int .i64 2, .slice B 1 1] W fun e w' => ∃ A' c', e = .returned (.slice A' 2 c') ∧ By w' (fun b => W.heap.size ≤ b ∧ b < w'.heap.size) A' 2 [2, 120] ∧ Below W.heap.size W w' := fun W B h => text_any _ 2 [120] B 1 1 W h (by omega)
  have hck : ∀ W g B1 c1 A1 c2 who, BS W g [] ts4 → By W (fun b => b ≠ g) B1 1 [120] → Tg W A1 4 tgs4 → (∀ o, A1 = some o → o.block ≠ g) → Calls Tryd.prog 10 #[.iface 30 (.pointer (some ⟨g, 0, none⟩)), .agg #[.int .i64 2, .int .i64 0, .slice B1 1 c1, .slice A1 4 c2], .int .i64 3, .int .i64 who] W fun e w' => e = .returned (.int .i64 (if decide (((0, who, tx4) : TK) = (0, 3, tx4)) then 0 else 12)) ∧ BS w' g [] ts4 ∧ KF g W w' := fun W g B1 c1 A1 c2 who h1 h2 h3 h4 => by
    have h := check_book g [] ts4 2 0 who [120] (bookTag ts4 (0, 3, tx4)) tgs4 _ B1 1 c1 (by omega) A1 4 c2 3 tgs4_at (by omega) W h1 h2 h3 h4
    rw [← holds_made hmem (by omega)]
    exact h
  have hck3 : ∀ W g B1 c1 A1 c2, BS W g [] ts4 → By W (fun b => b ≠ g) B1 1 [120] → Tg W A1 4 tgs4 → (∀ o, A1 = some o → o.block ≠ g) → Calls Tryd.prog 10 #[.iface 30 (.pointer (some ⟨g, 0, none⟩)), .agg #[.int .i64 2, .int .i64 0, .slice B1 1 c1, .slice A1 4 c2], .int .i64 3, .int .i64 3] W fun e w' => e = .returned (.int .i64 0) ∧ BS w' g [] ts4 ∧ KF g W w' := fun W g B1 c1 A1 c2 h1 h2 h3 h4 => by
    have h := hck W g B1 c1 A1 c2 3 h1 h2 h3 h4
    rw [decide_eq_true rfl] at h
    exact h
  have hck2 : ∀ W g B1 c1 A1 c2, BS W g [] ts4 → By W (fun b => b ≠ g) B1 1 [120] → Tg W A1 4 tgs4 → (∀ o, A1 = some o → o.block ≠ g) → Calls Tryd.prog 10 #[.iface 30 (.pointer (some ⟨g, 0, none⟩)), .agg #[.int .i64 2, .int .i64 0, .slice B1 1 c1, .slice A1 4 c2], .int .i64 3, .int .i64 2] W fun e w' => e = .returned (.int .i64 12) ∧ BS w' g [] ts4 ∧ KF g W w' := fun W g B1 c1 A1 c2 h1 h2 h3 h4 => by
    have h := hck W g B1 c1 A1 c2 2 h1 h2 h3 h4
    rw [decide_eq_false (by simp)] at h
    exact h
  have hck4 : ∀ W g B1 c1 A1 c2, Calls Tryd.prog 10 #[.iface 30 (.pointer (some ⟨g, 0, none⟩)), .agg #[.int .i64 2, .int .i64 0, .slice B1 1 c1, .slice A1 4 c2], .int .i64 4, .int .i64 4] W fun e w' => e = .returned (.int .i64 12) ∧ Below W.heap.size W w' := fun W g B1 c1 A1 c2 =>
    check_out 2 0 4 4 B1 1 c1 A1 4 c2 _ (by omega) W
  have HAll := Lib.hid hall
  have HSign := Lib.hid hsign
  have HText := Lib.hid htext
  have HCk3 := Lib.hid hck3
  have HCk2 := Lib.hid hck2
  have HCk4 := Lib.hid hck4
  clear hmem hln hl8 hall hsign htext hck hck3 hck2 hck4
  go_enter Tryd.func4, Tryd.ntmps4
  go_wp2_with (first
    | (go_at_call 6; (with_reducible refine (bnew_any _).mono ?_); rintro e w1 ⟨rfl, hs1, hb1⟩; have HS1 := Lib.hid hs1; have HX1 := Lib.hid hb1; have hg1 := hs1.lt; clear hs1 hb1)
    | (go_at_call 12; (with_reducible refine (HAll.out _).mono ?_); rintro e w2 ⟨b2, rfl, hi2, hn2, hb2⟩; have HX2 : Hid (Below w.heap.size w w2) := Lib.hid ((HX1.out.alloc HX1.out.size _).trans (hb2.mono (Nat.le_trans HX1.out.size (by simp)))); have HS2 : Hid (BS w2 w.heap.size [] []) := Lib.hid ((HS1.out.through ((Below.refl _ w1).alloc (Nat.le_refl _) _)).through hb2); have HI2 : Hid (Iv w2 (fun k => k ≠ w.heap.size) (some ⟨b2, 0, none⟩) 4 (upTo 4)) := Lib.hid (hi2.weak (fun k h => by have h1 : w1.heap.size < b2 := Nat.lt_of_lt_of_le (by simp) hn2; omega)); have HB2 : Hid (By w2 (fun _ => True) (some ⟨w1.heap.size, 0, none⟩) 1 [120]) := Lib.hid (By.lit120.through hb2); clear hi2 hn2 hb2)
    | (go_at_call 7; (with_reducible refine (HSign.out _ w.heap.size _ _ HS2.out HB2.out HI2.out).mono ?_); rintro e w3 ⟨B3, c3, A3, d3, rfl, hy3, ht3, hn3, hs3, hf3⟩; have HX3 := Lib.hid (HX2.out.trans hf3.low); have HS3 := Lib.hid hs3; have hg3 := hs3.lt; have HB3 := Lib.hid (hy3.weak (Q' := fun b => b ≠ w.heap.size) fun k h => Nat.ne_of_gt (Nat.lt_of_lt_of_le HS2.out.lt h)); have HT3 := Lib.hid ht3; have hne3 : ∀ o, A3 = some o → o.block ≠ w.heap.size := fun o e => Nat.ne_of_gt (Nat.lt_of_lt_of_le HS2.out.lt (hn3 o e)); clear hy3 ht3 hn3 hs3 hf3)
    | (refine wpList_store_blk rfl 26 (.tmp 2) (.tmp 9) rfl w3.heap.size [.int .i64 2, .int .i64 0, .slice B3 1 c3, .slice A3 4 d3] rfl rfl 26 [.int .i64 0, .int .i64 0, .slice none 0 0, .slice none 0 0] (Blk.fresh rfl (by kernel_rfl)) (by kernel_rfl) rfl (by simp [Value.oneCell']) ?_; intro w4 hb4 ho4; have hx4 := below_new ho4; have HM4 := Lib.hid hb4; have HX4 := Lib.hid (HX3.out.trans (hx4.mono HX3.out.size)); have HS4 := Lib.hid (HS3.out.through hx4); have HB4 := Lib.hid (HB3.out.through hx4); have HT4 := Lib.hid (HT3.out.through hx4); clear hb4 ho4 hx4)
    | (go_at_call 8; (with_reducible refine (HText.out _ _ By.lit120).mono ?_); rintro e w5 ⟨A5, c5, rfl, hy5, hb5⟩; have hcv := str_any _ c5 hy5; have hx5 : Below w4.heap.size w4 w5 := ((Below.refl _ w4).alloc (Nat.le_refl _) _).trans (hb5.mono (by simp)); have HX5 := Lib.hid (HX4.out.trans (hx5.mono HX4.out.size)); have HM5 := Lib.hid (HM4.out.through hx5); have c53 := HM5.out.cellAt (i := 3) rfl; have HS5 := Lib.hid (HS4.out.through hx5); have HB5 := Lib.hid (HB4.out.through hx5); have HT5 := Lib.hid (HT4.out.through hx5); clear hy5 hb5 hx5)
    | (refine wpList_load_blk_g 26 (.tmp 2) rfl (by kernel_rfl) w3.heap.size rfl 26 [.int .i64 2, .int .i64 0, .slice B3 1 c3, .slice A3 4 d3] _ HM5.out Tryd.underlying26 rfl (by kernel_rfl) ?_)
    | (go_at_call 10; (with_reducible refine (HCk3.out _ w.heap.size B3 c3 A3 d3 HS5.out HB5.out HT5.out hne3).mono ?_); rintro e w6 ⟨rfl, hs, hf⟩; have HX6 := Lib.hid (HX5.out.trans hf.low); have HS6 := Lib.hid hs; have HM6 := Lib.hid (hf.blk HM5.out (Nat.ne_of_gt hg3)); have HB6 := Lib.hid (HB5.out.kf hf (fun _ h => h)); have HT6 := Lib.hid (HT5.out.kfNe hf hne3); clear hs hf)
    | (refine wpList_load_blk_g 26 (.tmp 2) rfl (by kernel_rfl) w3.heap.size rfl 26 [.int .i64 2, .int .i64 0, .slice B3 1 c3, .slice A3 4 d3] _ HM6.out Tryd.underlying26 rfl (by kernel_rfl) ?_)
    | (go_at_call 10; (with_reducible refine (HCk2.out _ w.heap.size B3 c3 A3 d3 HS6.out HB6.out HT6.out hne3).mono ?_); rintro e w7 ⟨rfl, hs, hf⟩; have HX7 := Lib.hid (HX6.out.trans hf.low); have HM7 := Lib.hid (hf.blk HM6.out (Nat.ne_of_gt hg3)); clear hs hf)
    | (refine wpList_load_blk_g 26 (.tmp 2) rfl (by kernel_rfl) w3.heap.size rfl 26 [.int .i64 2, .int .i64 0, .slice B3 1 c3, .slice A3 4 d3] _ HM7.out Tryd.underlying26 rfl (by kernel_rfl) ?_)
    | (go_at_call 10; (with_reducible refine (HCk4.out _ w.heap.size B3 c3 A3 d3).mono ?_); rintro e w8 ⟨rfl, hb⟩; have HX8 := Lib.hid (HX7.out.trans (hb.mono HX7.out.size)); clear hb)
    | (go_at_call 12; (with_reducible refine (all_none 8 (by omega) _).mono ?_); rintro e w9 ⟨rfl, rfl⟩))
  go_ret
  exact ⟨rfl, HX8.out⟩

end Go.Proofs.YtnncfhkgcaoomaaDoor
