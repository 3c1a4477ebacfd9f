/-
  KeysTells, walked.
-/
import Derived.Test.YtolildehdibpbaaDoorLG
namespace Go.Proofs.YtolildehdibpbaaDoor
open Go.RowKit

set_option maxHeartbeats 16000000 in
set_option maxRecDepth 100000 in
theorem ktells_any (Q Q' : Nat → Prop) (seed text : List UInt8) (a b k : Int) (A A' : Option Addr) (n c n' c' : Nat) (w : World) (ht : Tab w) (hby : By w Q A n seed) (hby' : By w Q' A' n' text) :
    Calls Tryd.prog 7 #[.slice A n c, .int .i64 a, .int .i64 b, .int .i64 k, .slice A' n' c'] w fun e w' => e = .returned (.bool true) ∧ Below w.heap.size w w' := by
  have HT := Lib.hid ht
  have HBy := Lib.hid hby
  have HBy' := Lib.hid hby'
  by_cases hn : 100 < n
  · have hd : decide (100 < (n : Int)) = true := by simp; omega
    clear ht hby hby'
    go_enter Tryd.func7, Tryd.ntmps7
    go_wp2_with (go_at_call 17; refine (kfixed_any _ HT.out).mono ?_; rintro e w1 ⟨rfl, hx1⟩)
    go_ret
    exact ⟨rfl, hx1⟩
  by_cases hn' : 100 < n'
  · have hd : decide (100 < (n : Int)) = false := by simp; omega
    have hd' : decide (100 < (n' : Int)) = true := by simp; omega
    clear ht hby hby'
    go_enter Tryd.func7, Tryd.ntmps7
    go_wp2_with (go_at_call 17; refine (kfixed_any _ HT.out).mono ?_; rintro e w1 ⟨rfl, hx1⟩)
    go_ret
    exact ⟨rfl, hx1⟩
  have hd : decide (100 < (n : Int)) = false := by simp; omega
  have hd' : decide (100 < (n' : Int)) = false := by simp; omega
  have hgl0 := ht.lt.1
  have hgl1 := ht.lt.2
  have hsl : seed.length ≤ 1000000 := by rw [hby.len]; omega
  obtain ⟨q, hq⟩ : ∃ q, q = vs (keyAB seed a b) := ⟨_, rfl⟩
  obtain ⟨dq, hdq⟩ : ∃ dq, dq = vs (digK k text) := ⟨_, rfl⟩
  obtain ⟨tq, htq⟩ : ∃ tq, tq = vs (tagAB seed a b text) := ⟨_, rfl⟩
  obtain ⟨q0, hq0⟩ : ∃ q0, q0 = vs (keyAB [] a b) := ⟨_, rfl⟩
  obtain ⟨t0, ht0⟩ : ∃ t0, t0 = vs (tagAB [] a b text) := ⟨_, rfl⟩
  have tneq : ∀ (xs : List UInt8), xs.length = 32 → ∀ W, (binOp .neq 28 (.agg (vs xs).toArray) (.agg (vs xs).toArray)).run Tryd.prog W = .ok (.bool false) W := fun xs hx W =>
    arr_neq (t := 28) (b := true) (fun w => by rw [tag_eql _ _ hx hx, beq_self_eq_true]) W
  have hnq : ∀ W, (binOp .neq 28 (.agg q.toArray) (.agg q.toArray)).run Tryd.prog W = .ok (.bool false) W := fun W => by rw [hq]; exact tneq _ (keyAB_length _ _ _) W
  have hnt : ∀ W, (binOp .neq 28 (.agg tq.toArray) (.agg tq.toArray)).run Tryd.prog W = .ok (.bool false) W := fun W => by rw [htq]; exact tneq _ (tagAB_length _ _ _ _) W
  have hnd : ∀ W, (binOp .neq 25 (.agg dq.toArray) (.agg dq.toArray)).run Tryd.prog W = .ok (.bool false) W := fun W => by
    rw [hdq]; exact arr_neq (t := 25) (b := true) (fun w => by rw [dig_eql2 _ _ (digK_length _ _) (digK_length _ _), beq_self_eq_true]) W
  have he0 : ∀ W, (binOp .eql 28 (.agg q0.toArray) (.agg q0.toArray)).run Tryd.prog W = .ok (.bool true) W := fun W => by rw [hq0, tag_eql _ _ (keyAB_length _ _ _) (keyAB_length _ _ _), beq_self_eq_true]
  have he1 : ∀ W, (binOp .eql 28 (.agg t0.toArray) (.agg t0.toArray)).run Tryd.prog W = .ok (.bool true) W := fun W => by rw [ht0, tag_eql _ _ (tagAB_length _ _ _ _) (tagAB_length _ _ _ _), beq_self_eq_true]
  have hnew : ∀ W, By W Q A n seed → Calls Tryd.prog 18 #[.slice A n c] W fun e w' => ∃ g, e = .returned (.pointer (some ⟨g, 0, none⟩)) ∧ TS w' g seed ∧ W.heap.size ≤ g ∧ Below W.heap.size W w' := fun W h => knew_any Q seed A n c W h (by omega)
  have hkab : ∀ W g, Tab W → TS W g seed → Calls Tryd.prog 19 #[.pointer (some ⟨g, 0, none⟩), .int .i64 a, .int .i64 b] W fun e w' => e = .returned (.agg q.toArray) ∧ TS w' g seed ∧ KF g W w' := fun W g h1 h2 => by rw [hq]; exact key_tab g seed a b W h1 h2 hsl
  have hkba : ∀ W g, Tab W → TS W g seed → Calls Tryd.prog 19 #[.pointer (some ⟨g, 0, none⟩), .int .i64 b, .int .i64 a] W fun e w' => e = .returned (.agg q.toArray) ∧ TS w' g seed ∧ KF g W w' := fun W g h1 h2 => by rw [hq, keyAB_comm]; exact key_tab g seed b a W h1 h2 hsl
  have hrk : ∀ W, By W Q A n seed → Calls Tryd.prog 20 #[.slice A n c, .int .i64 a, .int .i64 b] W fun e w' => e = .returned (.agg q.toArray) ∧ Below W.heap.size W w' := fun W h => by rw [hq]; exact rkey_any Q seed a b A n c W h (by omega)
  have hdg : ∀ W g, Tab W → By W Q' A' n' text → Calls Tryd.prog 36 #[.pointer (some ⟨g, 0, none⟩), .int .i64 k, .slice A' n' c'] W fun e w' => e = .returned (.agg dq.toArray) ∧ Below W.heap.size W w' := fun W g h1 h2 => by rw [hdq]; exact digest_any Q' _ k text A' n' c' W h2 h1 (by omega)
  have hrd : ∀ W, By W Q' A' n' text → Calls Tryd.prog 21 #[.int .i64 k, .slice A' n' c'] W fun e w' => e = .returned (.agg dq.toArray) ∧ Below W.heap.size W w' := fun W h => by rw [hdq]; exact rdigest_any Q' k text A' n' c' W h (by omega)
  have htg : ∀ W g, w.heap.size ≤ g → TS W g seed → Tab W → By W (fun k => k < g) A' n' text → Calls Tryd.prog 23 #[.pointer (some ⟨g, 0, none⟩), .int .i64 a, .int .i64 b, .slice A' n' c'] W fun e w' => e = .returned (.agg tq.toArray) ∧ TS w' g seed ∧ KF g W w' := fun W g h0 h1 h2 h3 => by rw [htq]; exact tag_tab g seed a b text A' n' c' W h1 hsl (Nat.lt_of_lt_of_le hgl0 h0) (Nat.lt_of_lt_of_le hgl1 h0) h3 h2 (by omega)
  have hrt : ∀ W, By W Q A n seed → By W Q' A' n' text → Calls Tryd.prog 22 #[.slice A n c, .int .i64 a, .int .i64 b, .slice A' n' c'] W fun e w' => e = .returned (.agg tq.toArray) ∧ Below W.heap.size W w' := fun W h1 h2 => by rw [htq]; exact rtag_any Q Q' seed a b text A A' n c n' c' W h1 (by omega) h2 (by omega)
  have hk0 : ∀ W, Tab W → Calls Tryd.prog 19 #[.pointer none, .int .i64 a, .int .i64 b] W fun e w' => e = .returned (.agg q0.toArray) ∧ Below W.heap.size W w' := fun W h => by rw [hq0]; exact key_nil a b W h
  have hrk0 : ∀ W, Calls Tryd.prog 20 #[.slice none 0 0, .int .i64 a, .int .i64 b] W fun e w' => e = .returned (.agg q0.toArray) ∧ Below W.heap.size W w' := fun W => by rw [hq0]; exact rkey_any (fun _ => True) [] a b none 0 0 W By.none_ (by omega)
  have htg0 : ∀ W, Tab W → By W Q' A' n' text → Calls Tryd.prog 23 #[.pointer none, .int .i64 a, .int .i64 b, .slice A' n' c'] W fun e w' => e = .returned (.agg t0.toArray) ∧ Below W.heap.size W w' := fun W h1 h2 => by rw [ht0]; exact tag_nil Q' a b text A' n' c' W h2 h1 (by omega)
  have hrt0 : ∀ W, By W Q' A' n' text → Calls Tryd.prog 22 #[.slice none 0 0, .int .i64 a, .int .i64 b, .slice A' n' c'] W fun e w' => e = .returned (.agg t0.toArray) ∧ Below W.heap.size W w' := fun W h => by rw [ht0]; exact rtag_any (fun _ => True) Q' [] a b text none A' 0 0 n' c' W By.none_ (by omega) h (by omega)
  have HNew := Lib.hid hnew
  have HKab := Lib.hid hkab
  have HKba := Lib.hid hkba
  have HRk := Lib.hid hrk
  have HDg := Lib.hid hdg
  have HRd := Lib.hid hrd
  have HTg' := Lib.hid htg
  have HRt := Lib.hid hrt
  have HK0 := Lib.hid hk0
  have HRk0 := Lib.hid hrk0
  have HTg0 := Lib.hid htg0
  have HRt0 := Lib.hid hrt0
  clear ht hby hby' hgl0 hgl1 hsl hq hdq htq hq0 ht0 tneq hnew hkab hkba hrk hdg hrd htg hrt hk0 hrk0 htg0 hrt0
  go_enter Tryd.func7, Tryd.ntmps7
  go_wp2_with (first
    | (go_at_call 17; refine (kfixed_any _ HT.out).mono ?_; rintro e w1 ⟨rfl, hx1⟩; have HX1 := Lib.hid hx1; clear hx1)
    | (go_at_call 18; (with_reducible refine (HNew.out _ (HBy.out.through HX1.out)).mono ?_); rintro e w2 ⟨g, rfl, hts2, hg2, hb2⟩; have HS2 := Lib.hid hts2; have HX2 := Lib.hid (HX1.out.trans (hb2.mono HX1.out.size)); have hwg : w.heap.size ≤ g := Nat.le_trans HX1.out.size hg2; clear hts2 hb2 hg2))
  have HYg : Hid (By w (fun k => k < g) A' n' text) := Lib.hid (HBy'.out.lt.weak fun k h => Nat.lt_of_lt_of_le h.2 hwg)
  have HTg := Lib.hid (fun W h1 h2 h3 => HTg'.out W g hwg h1 h2 h3)
  go_loopw [28] (fun iv wr => ∃ i : Nat, i ≤ 2 ∧ iv = .int .i64 i ∧ TS wr g seed ∧ Below w.heap.size w wr) (fun iv _ => 2 - (intOf iv).toNat)
  case atStart => exact ⟨0, by omega, rfl, HS2.out, HX2.out⟩
  case round =>
    obtain ⟨i, hi, rfl, hts, hx⟩ := hrel
    have HS3 := Lib.hid hts
    have HX3 := Lib.hid hx
    clear hts hx HS2 HX2
    by_cases hlt : i < 2
    · as_aux_lemma =>
      go_wp2_with (first
        | (go_at_call 19; (with_reducible refine (HKab.out _ g (HT.out.through HX3.out) HS3.out).mono ?_); rintro e w4 ⟨rfl, hts, hkf⟩; have HS4 := Lib.hid hts; have HX4 := Lib.hid (HX3.out.trans (hkf.1.mono hwg)); clear hts hkf)
        | (go_at_call 20; (with_reducible refine (HRk.out _ (HBy.out.through HX4.out)).mono ?_); rintro e w5 ⟨rfl, hb⟩; have HS5 := Lib.hid (HS4.out.through hb); have HX5 := Lib.hid (HX4.out.trans (hb.mono HX4.out.size)); clear hb)
        | (go_at_call 19; (with_reducible refine (HKba.out _ g (HT.out.through HX5.out) HS5.out).mono ?_); rintro e w6 ⟨rfl, hts, hkf⟩; have HS6 := Lib.hid hts; have HX6 := Lib.hid (HX5.out.trans (hkf.1.mono hwg)); clear hts hkf)
        | (go_at_call 19; (with_reducible refine (HKab.out _ g (HT.out.through HX6.out) HS6.out).mono ?_); rintro e w7 ⟨rfl, hts, hkf⟩; have HS7 := Lib.hid hts; have HX7 := Lib.hid (HX6.out.trans (hkf.1.mono hwg)); clear hts hkf)
        | (go_at_call 36; (with_reducible refine (HDg.out _ g (HT.out.through HX7.out) (HBy'.out.through HX7.out)).mono ?_); rintro e w8 ⟨rfl, hb⟩; have HS8 := Lib.hid (HS7.out.through hb); have HX8 := Lib.hid (HX7.out.trans (hb.mono HX7.out.size)); clear hb)
        | (go_at_call 21; (with_reducible refine (HRd.out _ (HBy'.out.through HX8.out)).mono ?_); rintro e w9 ⟨rfl, hb⟩; have HS9 := Lib.hid (HS8.out.through hb); have HX9 := Lib.hid (HX8.out.trans (hb.mono HX8.out.size)); clear hb)
        | (go_at_call 23; (with_reducible refine (HTg.out _ HS9.out (HT.out.through HX9.out) (HYg.out.through HX9.out)).mono ?_); rintro e wa ⟨rfl, hts, hkf⟩; have HSa := Lib.hid hts; have HXa := Lib.hid (HX9.out.trans (hkf.1.mono hwg)); clear hts hkf)
        | (go_at_call 22; (with_reducible refine (HRt.out _ (HBy.out.through HXa.out) (HBy'.out.through HXa.out)).mono ?_); rintro e wb ⟨rfl, hb⟩; have HSb := Lib.hid (HSa.out.through hb); have HXb := Lib.hid (HXa.out.trans (hb.mono HXa.out.size)); clear hb))
      go_roundw
      case rel => exact ⟨i + 1, by omega, by go_num, HSb.out, HXb.out⟩
      case measure => simp [intOf]; omega
    · as_aux_lemma =>
      go_wp2_with (first
        | (go_at_call 19; (with_reducible refine (HK0.out _ (HT.out.through HX3.out)).mono ?_); rintro e w4 ⟨rfl, hb⟩; have HX4 := Lib.hid (HX3.out.trans (hb.mono HX3.out.size)); clear hb)
        | (go_at_call 20; (with_reducible refine (HRk0.out _).mono ?_); rintro e w5 ⟨rfl, hb⟩; have HX5 := Lib.hid (HX4.out.trans (hb.mono HX4.out.size)); clear hb)
        | (go_at_call 23; (with_reducible refine (HTg0.out _ (HT.out.through HX5.out) (HBy'.out.through HX5.out)).mono ?_); rintro e w6 ⟨rfl, hb⟩; have HX6 := Lib.hid (HX5.out.trans (hb.mono HX5.out.size)); clear hb)
        | (go_at_call 22; (with_reducible refine (HRt0.out _ (HBy'.out.through HX6.out)).mono ?_); rintro e w7 ⟨rfl, hb⟩; have HX7 := Lib.hid (HX6.out.trans (hb.mono HX6.out.size)); clear hb))
      go_ret
      exact ⟨rfl, HX7.out⟩

end Go.Proofs.YtolildehdibpbaaDoor
