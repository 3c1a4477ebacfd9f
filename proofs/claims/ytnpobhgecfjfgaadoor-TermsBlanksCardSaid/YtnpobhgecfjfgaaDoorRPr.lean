/-
  The document's print, Print.
-/
import Derived.Test.YtnpobhgecfjfgaaDoorRDig
import Derived.Test.YtnpobhgecfjfgaaDoorTm3
import Derived.Test.YtnpobhgecfjfgaaDoorTD
namespace Go.Proofs.YtnpobhgecfjfgaaDoor
open Go.RowKit

theorem digs_len {n : Nat} (h : n < 100) : (digs n).length ≤ 2 := by
  by_cases h1 : n < 10
  · rw [digs_one h1]; simp
  · rw [digs_two (by omega) h]; simp
theorem headP_len {a : Int} {n : Nat} (h1 : 1 ≤ a) (h2 : a ≤ (n : Int)) (hn : n ≤ 99) : (headP a n).length ≤ 4 := by
  unfold headP
  split
  · simp
  · split
    · simp
    · have := digs_len (n := a.toNat) (by omega)
      simp
      omega
mutual
theorem printP_len : ∀ (f : Fm), f.rng 7 = true → f.size ≤ 99 → (printP f).length + 1 ≤ 10 * f.size
  | .mk o a [], hr, _ => by
    have ho : 0 ≤ o ∧ o < 7 := by simp [Fm.rng] at hr; omega
    have := digs_len (n := o.toNat) (by omega)
    show (digs o.toNat).length + 1 ≤ 10 * (1 + 0)
    omega
  | .mk o a (k :: ks), hr, hz => by
    simp only [Fm.rng, Bool.and_eq_true, decide_eq_true_eq] at hr
    obtain ⟨hrs, ⟨h1, h2⟩, _⟩ := hr
    simp only [Fm.rngs, Bool.and_eq_true] at hrs
    simp only [Fm.size, Fm.sizes] at hz
    have hl := Fm.length_sizes ks
    have hk := printP_len k hrs.1 (by omega)
    have ht := tailP_len ks hrs.2 (by omega)
    have hh := headP_len h1 h2 (by have := k.size_pos; omega)
    show (headP a (ks.length + 1) ++ 40 :: (printP k ++ tailP ks)).length + 1 ≤ 10 * (1 + (k.size + Fm.sizes ks))
    simp
    omega
theorem tailP_len : ∀ (ks : List Fm), Fm.rngs 7 ks = true → Fm.sizes ks ≤ 99 → (tailP ks).length ≤ 10 * Fm.sizes ks + 1
  | [], _, _ => by simp [tailP]
  | k :: ks, hr, hz => by
    simp only [Fm.rngs, Bool.and_eq_true] at hr
    simp only [Fm.sizes] at hz
    have hk := printP_len k hr.1 (by omega)
    have ht := tailP_len ks hr.2 (by omega)
    show (44 :: (printP k ++ tailP ks)).length ≤ 10 * (k.size + Fm.sizes ks) + 1
    simp
    omega
end
/-- what is still to be printed at kid i -/
def restP (i : Nat) (l : List Fm) : List UInt8 := if i = 0 then printsP l else tailP l
theorem restP_0 (k : Fm) (l : List Fm) : restP 0 (k :: l) = printP k ++ restP 1 l := rfl
theorem restP_s {i : Nat} (h : i ≠ 0) (k : Fm) (l : List Fm) : restP i (k :: l) = 44 :: (printP k ++ restP (i + 1) l) := by unfold restP; rw [if_neg h, if_neg (by omega)]; rfl
theorem restP_e (i : Nat) : restP i [] = [41] := by unfold restP; split <;> rfl

theorem ret_str' {a b : List UInt8} (h : a = b) : Ending.returned (Value.string (ba a)) = Ending.returned (.string (ba b)) := by rw [h]

set_option maxHeartbeats 8000000 in
set_option maxRecDepth 100000 in
theorem print_any (f : Fm) : ∀ (A : Option Addr) (n c : Nat) (w : World), f.rng 7 = true → f.size ≤ 99 → f.In w (fun _ => True) A n →
    Calls Tryd.prog 21 #[f.val A n c] w fun e w' => e = .returned (.string (ba (printP f))) ∧ Below w.heap.size w w' := by
  induction f using Fm.ind with
  | h o a ks ih =>
    intro A n c w hr hz h
    have hsz := ba_size
    have hap := ba_append
    unfold Fm.val
    simp only [Fm.org, Fm.nd]
    cases ks with
    | nil =>
      obtain rfl : 0 = n := h.len
      have ho : 0 ≤ o ∧ o < 7 := by simp [Fm.rng] at hr; omega
      have hpr : printP (.mk o a []) = digs o.toNat := rfl
      rw [hpr]
      obtain ⟨j, rfl⟩ : ∃ j : Nat, o = (j : Int) := ⟨o.toNat, by omega⟩
      have hdg := fun W => digits_any j (by omega) W
      rw [Int.toNat_natCast]
      obtain ⟨d, hd⟩ : ∃ d, digs j = d := ⟨_, rfl⟩
      rw [hd] at hdg ⊢
      have HD := Lib.hid hdg
      clear hdg hd hpr hr h ih
      go_enter Tryd.func21, Tryd.ntmps21
      go_wp2_with (go_at_call 40; (with_reducible refine (HD.out _).mono ?_); rintro e w1 ⟨rfl, hb⟩; have HX1 := Lib.hid (below_step ((Below.refl _ w).alloc (Nat.le_refl _) _) hb); clear hb)
      go_ret
      exact ⟨rfl, HX1.out⟩
    | cons k0 ks0 =>
      have hpr : printP (.mk o a (k0 :: ks0)) = (headP a (ks0.length + 1) ++ [40]) ++ restP 0 (k0 :: ks0) := by
        rw [List.append_assoc]
        rfl
      have hrs := hr
      simp only [Fm.rng, Bool.and_eq_true, decide_eq_true_eq] at hrs
      obtain ⟨hrk, ⟨h1, h2⟩, rfl⟩ := hrs
      have hn : ks0.length + 1 = n := h.len
      rw [hn] at hpr h2
      have hzs : Fm.sizes (k0 :: ks0) ≤ 98 := by simp only [Fm.size] at hz; omega
      have hlen := Fm.length_sizes (k0 :: ks0)
      simp only [List.length_cons] at hlen
      have hpl := printP_len _ hr (by omega)
      have hnk : (k0 :: ks0).length = n := hn
      have hn98 : n ≤ 98 := by omega
      have hpl3 : (printP (.mk 0 a (k0 :: ks0))).length ≤ 1000 := by omega
      obtain ⟨ks, hks⟩ : ∃ ks, ks = k0 :: ks0 := ⟨_, rfl⟩
      rw [← hks] at hpr hrk hzs hnk h ih hpl3 ⊢
      obtain ⟨P, hP⟩ : ∃ P, printP (.mk 0 a ks) = P := ⟨_, rfl⟩
      rw [hP] at hpr hpl3 ⊢
      have HF := Lib.hid h
      have HI := Lib.hid ih
      have HPr := Lib.hid hpr
      obtain ⟨j, rfl⟩ : ∃ j : Nat, a = (j : Int) := ⟨a.toNat, by omega⟩
      have hdg := fun W => digits_any j (by omega) W
      have hdl := digs_len (n := j) (by omega)
      obtain ⟨d, hd⟩ : ∃ d, digs j = d := ⟨_, rfl⟩
      rw [hd] at hdg hdl
      have HD := Lib.hid hdg
      have hd2 : digs ((j : Int)).toNat = d := by rw [Int.toNat_natCast]; exact hd
      clear hdg hd hr hz h ih hpr hn hP hlen hpl
      have hof : (⟨#[111, 102, 40]⟩ : ByteArray) = ba [111, 102, 40] := rfl
      have han : (⟨#[97, 110, 121, 40]⟩ : ByteArray) = ba [97, 110, 121, 40] := rfl
      have hal : (⟨#[97, 108, 108, 40]⟩ : ByteArray) = ba [97, 108, 108, 40] := rfl
      have hcm : (⟨#[44]⟩ : ByteArray) = ba [44] := rfl
      have hcl : (⟨#[41]⟩ : ByteArray) = ba [41] := rfl
      go_enter Tryd.func21, Tryd.ntmps21
      by_cases hjn : j = n
      · obtain rfl : n = j := hjn.symm
        by_cases hj1 : n = 1
        · subst hj1
          have hhd : headP ((1 : Nat) : Int) 1 ++ [40] = [97, 108, 108, 40] := by unfold headP; rw [if_pos rfl]; rfl
          have HHd := Lib.hid hhd
          clear hhd hd2
          have HD : Hid (∀ W : World, Calls Tryd.prog 40 #[.int .i64 1] W fun e w' => e = .returned (.string (ba d)) ∧ Below W.heap.size W w') := HD
          go_wp2_with (go_at_call 40; (with_reducible refine (HD.out _).mono ?_); rintro e w1 ⟨rfl, hb⟩; have HX1 := Lib.hid (below_step ((Below.refl _ w).alloc (Nat.le_refl _) _) hb); have HB1 : Hid (Blk w1 w.heap.size 25 [.int .i64 0, .int .i64 1, .slice A 1 c]) := Lib.hid (Blk.through (Blk.fresh rfl rfl) hb); have d1 := HB1.out.cellAt (i := 1) rfl; have d2 := HB1.out.cellAt (i := 2) rfl; clear hb)
          go_loopw [3, 29] (fun ov iv wr => ∃ (i : Nat) (u : List UInt8), i ≤ ks.length ∧ iv = .int .i64 (i : Int) ∧ ov = .string (ba u) ∧ Below w.heap.size w wr ∧ P = u ++ restP i (ks.drop i)) (fun _ iv _ => 1 - (intOf iv).toNat)
          case atStart => exact ⟨0, [97, 108, 108, 40], Nat.zero_le _, rfl, rfl, HX1.out, by rw [HPr.out, HHd.out, List.drop_zero]⟩
          case round =>
            obtain ⟨i, u, hi, rfl, rfl, hx, hs⟩ := hrel
            have HX := Lib.hid hx
            have hul : u.length ≤ 1000 := by have := congrArg List.length hs; simp at this; omega
            clear hx
            by_cases hlt : i < 1
            · obtain ⟨k, g, b, A', n', c', hk1, hk2, hk3, rfl, _, hr, hk⟩ := (HF.out.through HX.out).kid hlt
              have HR := Lib.hid hr
              have HK := Lib.hid hk
              rw [hk3] at hs
              have hpk : (printP k).length ≤ 1000 := by have := printP_len k (Fm.rngs_mem hrk hk2) (by have := Fm.sizes_mem hk2; omega); have := Fm.sizes_mem hk2; omega
              have hcall : ∀ W, k.In W (fun _ => True) A' n' → Calls Tryd.prog 21 #[.agg #[.int .i64 k.org, .int .i64 k.nd, .slice A' n' c']] W fun e w' => e = .returned (.string (ba (printP k))) ∧ Below W.heap.size W w' := fun W h => HI.out k hk2 A' n' c' W (Fm.rngs_mem hrk hk2) (by have := Fm.sizes_mem hk2; omega) h
              have HC := Lib.hid hcall
              have HS := Lib.hid hs
              obtain ⟨p, hp⟩ : ∃ p, printP k = p := ⟨_, rfl⟩
              have HPk := Lib.hid hp
              rw [hp] at HC hpk
              clear hcall hs hk hk1 hk3 hr hp
              cases i with
              | zero =>
                go_wp2_with (first
                  | (refine wpList_load_mid rfl 25 (.tmp 32) rfl g (b + 0 * 3) (by simp [Act.eval]) [.int .i64 k.org, .int .i64 k.nd, .slice A' n' c'] _ HR.out Tryd.underlying25 rfl (by kernel_rfl) ?_)
                  | (go_at_call 21; (with_reducible refine (HC.out _ (HK.out.alloc _)).mono ?_); rintro e w5 ⟨rfl, hb5⟩; have HX5 := Lib.hid (below_step (HX.out.alloc HX.out.size _) hb5); clear hb5))
                go_roundw
                case rel => exact ⟨1, u ++ p, by omega, by go_num, rfl, HX5.out, by rw [HS.out, restP_0, HPk.out, List.append_assoc]⟩
                case measure => simp [intOf] <;> omega
              | succ i =>
                exact absurd hlt (by omega)
            · obtain rfl : i = 1 := by omega
              rw [List.drop_of_length_le (by omega), restP_e] at hs
              have HS := Lib.hid hs
              clear hs
              go_wp2
              go_ret
              exact ⟨by first | exact ret_str' HS.out.symm | (rw [HS.out]; rfl), HX.out⟩
        · have hj1b : ((n : Int) == 1) = false := by simp; omega
          have hhd : headP (n : Int) n ++ [40] = [97, 108, 108, 40] := by unfold headP; rw [if_pos rfl]; rfl
          have HHd := Lib.hid hhd
          clear hhd hd2
          go_wp2_with (go_at_call 40; (with_reducible refine (HD.out _).mono ?_); rintro e w1 ⟨rfl, hb⟩; have HX1 := Lib.hid (below_step ((Below.refl _ w).alloc (Nat.le_refl _) _) hb); have HB1 : Hid (Blk w1 w.heap.size 25 [.int .i64 0, .int .i64 (n : Int), .slice A n c]) := Lib.hid (Blk.through (Blk.fresh rfl rfl) hb); have d1 := HB1.out.cellAt (i := 1) rfl; have d2 := HB1.out.cellAt (i := 2) rfl; clear hb)
          go_loopw [3, 29] (fun ov iv wr => ∃ (i : Nat) (u : List UInt8), i ≤ ks.length ∧ iv = .int .i64 (i : Int) ∧ ov = .string (ba u) ∧ Below w.heap.size w wr ∧ P = u ++ restP i (ks.drop i)) (fun _ iv _ => n - (intOf iv).toNat)
          case atStart => exact ⟨0, [97, 108, 108, 40], Nat.zero_le _, rfl, rfl, HX1.out, by rw [HPr.out, HHd.out, List.drop_zero]⟩
          case round =>
            obtain ⟨i, u, hi, rfl, rfl, hx, hs⟩ := hrel
            have HX := Lib.hid hx
            have hul : u.length ≤ 1000 := by have := congrArg List.length hs; simp at this; omega
            clear hx
            by_cases hlt : i < n
            · obtain ⟨k, g, b, A', n', c', hk1, hk2, hk3, rfl, _, hr, hk⟩ := (HF.out.through HX.out).kid hlt
              have HR := Lib.hid hr
              have HK := Lib.hid hk
              rw [hk3] at hs
              have hpk : (printP k).length ≤ 1000 := by have := printP_len k (Fm.rngs_mem hrk hk2) (by have := Fm.sizes_mem hk2; omega); have := Fm.sizes_mem hk2; omega
              have hcall : ∀ W, k.In W (fun _ => True) A' n' → Calls Tryd.prog 21 #[.agg #[.int .i64 k.org, .int .i64 k.nd, .slice A' n' c']] W fun e w' => e = .returned (.string (ba (printP k))) ∧ Below W.heap.size W w' := fun W h => HI.out k hk2 A' n' c' W (Fm.rngs_mem hrk hk2) (by have := Fm.sizes_mem hk2; omega) h
              have HC := Lib.hid hcall
              have HS := Lib.hid hs
              obtain ⟨p, hp⟩ : ∃ p, printP k = p := ⟨_, rfl⟩
              have HPk := Lib.hid hp
              rw [hp] at HC hpk
              clear hcall hs hk hk1 hk3 hr hp
              cases i with
              | zero =>
                go_wp2_with (first
                  | (refine wpList_load_mid rfl 25 (.tmp 32) rfl g (b + 0 * 3) (by simp [Act.eval]) [.int .i64 k.org, .int .i64 k.nd, .slice A' n' c'] _ HR.out Tryd.underlying25 rfl (by kernel_rfl) ?_)
                  | (go_at_call 21; (with_reducible refine (HC.out _ (HK.out.alloc _)).mono ?_); rintro e w5 ⟨rfl, hb5⟩; have HX5 := Lib.hid (below_step (HX.out.alloc HX.out.size _) hb5); clear hb5))
                go_roundw
                case rel => exact ⟨1, u ++ p, by omega, by go_num, rfl, HX5.out, by rw [HS.out, restP_0, HPk.out, List.append_assoc]⟩
                case measure => simp [intOf] <;> omega
              | succ i =>
                go_wp2_with (first
                  | (refine wpList_load_mid rfl 25 (.tmp 32) rfl g (b + (i + 1) * 3) (by simp [Act.eval]) [.int .i64 k.org, .int .i64 k.nd, .slice A' n' c'] _ HR.out Tryd.underlying25 rfl (by kernel_rfl) ?_)
                  | (go_at_call 21; (with_reducible refine (HC.out _ (HK.out.alloc _)).mono ?_); rintro e w5 ⟨rfl, hb5⟩; have HX5 := Lib.hid (below_step (HX.out.alloc HX.out.size _) hb5); clear hb5))
                go_roundw
                case rel => exact ⟨i + 1 + 1, u ++ [44] ++ p, by omega, by go_num, by first | rfl | simp, HX5.out, by rw [HS.out, restP_s (by omega), HPk.out]; simp⟩
                case measure => simp [intOf] <;> omega
            · obtain rfl : i = n := by omega
              rw [List.drop_of_length_le (by omega), restP_e] at hs
              have HS := Lib.hid hs
              clear hs
              go_wp2
              go_ret
              exact ⟨by first | exact ret_str' HS.out.symm | (rw [HS.out]; rfl), HX.out⟩
      · have hjb : ((j : Int) == (n : Int)) = false := by simp; omega
        by_cases hj1 : j = 1
        · subst hj1
          have hjb1 : ((1 : Int) == (n : Int)) = false := hjb
          have hjb2 : ¬ (1 : Int) = (n : Int) := by omega
          have hhd : headP ((1 : Nat) : Int) n ++ [40] = [97, 110, 121, 40] := by unfold headP; rw [if_neg (by omega)]; rfl
          have HHd := Lib.hid hhd
          clear hhd hd2
          have HD : Hid (∀ W : World, Calls Tryd.prog 40 #[.int .i64 1] W fun e w' => e = .returned (.string (ba d)) ∧ Below W.heap.size W w') := HD
          go_wp2_with (go_at_call 40; (with_reducible refine (HD.out _).mono ?_); rintro e w1 ⟨rfl, hb⟩; have HX1 := Lib.hid (below_step ((Below.refl _ w).alloc (Nat.le_refl _) _) hb); have HB1 : Hid (Blk w1 w.heap.size 25 [.int .i64 0, .int .i64 1, .slice A n c]) := Lib.hid (Blk.through (Blk.fresh rfl rfl) hb); have d1 := HB1.out.cellAt (i := 1) rfl; have d2 := HB1.out.cellAt (i := 2) rfl; clear hb)
          go_loopw [3, 29] (fun ov iv wr => ∃ (i : Nat) (u : List UInt8), i ≤ ks.length ∧ iv = .int .i64 (i : Int) ∧ ov = .string (ba u) ∧ Below w.heap.size w wr ∧ P = u ++ restP i (ks.drop i)) (fun _ iv _ => n - (intOf iv).toNat)
          case atStart => exact ⟨0, [97, 110, 121, 40], Nat.zero_le _, rfl, rfl, HX1.out, by rw [HPr.out, HHd.out, List.drop_zero]⟩
          case round =>
            obtain ⟨i, u, hi, rfl, rfl, hx, hs⟩ := hrel
            have HX := Lib.hid hx
            have hul : u.length ≤ 1000 := by have := congrArg List.length hs; simp at this; omega
            clear hx
            by_cases hlt : i < n
            · obtain ⟨k, g, b, A', n', c', hk1, hk2, hk3, rfl, _, hr, hk⟩ := (HF.out.through HX.out).kid hlt
              have HR := Lib.hid hr
              have HK := Lib.hid hk
              rw [hk3] at hs
              have hpk : (printP k).length ≤ 1000 := by have := printP_len k (Fm.rngs_mem hrk hk2) (by have := Fm.sizes_mem hk2; omega); have := Fm.sizes_mem hk2; omega
              have hcall : ∀ W, k.In W (fun _ => True) A' n' → Calls Tryd.prog 21 #[.agg #[.int .i64 k.org, .int .i64 k.nd, .slice A' n' c']] W fun e w' => e = .returned (.string (ba (printP k))) ∧ Below W.heap.size W w' := fun W h => HI.out k hk2 A' n' c' W (Fm.rngs_mem hrk hk2) (by have := Fm.sizes_mem hk2; omega) h
              have HC := Lib.hid hcall
              have HS := Lib.hid hs
              obtain ⟨p, hp⟩ : ∃ p, printP k = p := ⟨_, rfl⟩
              have HPk := Lib.hid hp
              rw [hp] at HC hpk
              clear hcall hs hk hk1 hk3 hr hp
              cases i with
              | zero =>
                go_wp2_with (first
                  | (refine wpList_load_mid rfl 25 (.tmp 32) rfl g (b + 0 * 3) (by simp [Act.eval]) [.int .i64 k.org, .int .i64 k.nd, .slice A' n' c'] _ HR.out Tryd.underlying25 rfl (by kernel_rfl) ?_)
                  | (go_at_call 21; (with_reducible refine (HC.out _ (HK.out.alloc _)).mono ?_); rintro e w5 ⟨rfl, hb5⟩; have HX5 := Lib.hid (below_step (HX.out.alloc HX.out.size _) hb5); clear hb5))
                go_roundw
                case rel => exact ⟨1, u ++ p, by omega, by go_num, rfl, HX5.out, by rw [HS.out, restP_0, HPk.out, List.append_assoc]⟩
                case measure => simp [intOf] <;> omega
              | succ i =>
                go_wp2_with (first
                  | (refine wpList_load_mid rfl 25 (.tmp 32) rfl g (b + (i + 1) * 3) (by simp [Act.eval]) [.int .i64 k.org, .int .i64 k.nd, .slice A' n' c'] _ HR.out Tryd.underlying25 rfl (by kernel_rfl) ?_)
                  | (go_at_call 21; (with_reducible refine (HC.out _ (HK.out.alloc _)).mono ?_); rintro e w5 ⟨rfl, hb5⟩; have HX5 := Lib.hid (below_step (HX.out.alloc HX.out.size _) hb5); clear hb5))
                go_roundw
                case rel => exact ⟨i + 1 + 1, u ++ [44] ++ p, by omega, by go_num, by first | rfl | simp, HX5.out, by rw [HS.out, restP_s (by omega), HPk.out]; simp⟩
                case measure => simp [intOf] <;> omega
            · obtain rfl : i = n := by omega
              rw [List.drop_of_length_le (by omega), restP_e] at hs
              have HS := Lib.hid hs
              clear hs
              go_wp2
              go_ret
              exact ⟨by first | exact ret_str' HS.out.symm | (rw [HS.out]; rfl), HX.out⟩
        · have hj1b : ((j : Int) == 1) = false := by simp; omega
          have hhd : headP (j : Int) n ++ [40] = d ++ [111, 102, 40] := by unfold headP; rw [if_neg (by omega), if_neg (by omega), hd2, List.append_assoc]; rfl
          have HHd := Lib.hid hhd
          clear hhd hd2
          go_wp2_with (go_at_call 40; (with_reducible refine (HD.out _).mono ?_); rintro e w1 ⟨rfl, hb⟩; have HX1 := Lib.hid (below_step ((Below.refl _ w).alloc (Nat.le_refl _) _) hb); have HB1 : Hid (Blk w1 w.heap.size 25 [.int .i64 0, .int .i64 (j : Int), .slice A n c]) := Lib.hid (Blk.through (Blk.fresh rfl rfl) hb); have d1 := HB1.out.cellAt (i := 1) rfl; have d2 := HB1.out.cellAt (i := 2) rfl; clear hb)
          go_loopw [3, 29] (fun ov iv wr => ∃ (i : Nat) (u : List UInt8), i ≤ ks.length ∧ iv = .int .i64 (i : Int) ∧ ov = .string (ba u) ∧ Below w.heap.size w wr ∧ P = u ++ restP i (ks.drop i)) (fun _ iv _ => n - (intOf iv).toNat)
          case atStart => exact ⟨0, d ++ [111, 102, 40], Nat.zero_le _, rfl, rfl, HX1.out, by rw [HPr.out, HHd.out, List.drop_zero]⟩
          case round =>
            obtain ⟨i, u, hi, rfl, rfl, hx, hs⟩ := hrel
            have HX := Lib.hid hx
            have hul : u.length ≤ 1000 := by have := congrArg List.length hs; simp at this; omega
            clear hx
            by_cases hlt : i < n
            · obtain ⟨k, g, b, A', n', c', hk1, hk2, hk3, rfl, _, hr, hk⟩ := (HF.out.through HX.out).kid hlt
              have HR := Lib.hid hr
              have HK := Lib.hid hk
              rw [hk3] at hs
              have hpk : (printP k).length ≤ 1000 := by have := printP_len k (Fm.rngs_mem hrk hk2) (by have := Fm.sizes_mem hk2; omega); have := Fm.sizes_mem hk2; omega
              have hcall : ∀ W, k.In W (fun _ => True) A' n' → Calls Tryd.prog 21 #[.agg #[.int .i64 k.org, .int .i64 k.nd, .slice A' n' c']] W fun e w' => e = .returned (.string (ba (printP k))) ∧ Below W.heap.size W w' := fun W h => HI.out k hk2 A' n' c' W (Fm.rngs_mem hrk hk2) (by have := Fm.sizes_mem hk2; omega) h
              have HC := Lib.hid hcall
              have HS := Lib.hid hs
              obtain ⟨p, hp⟩ : ∃ p, printP k = p := ⟨_, rfl⟩
              have HPk := Lib.hid hp
              rw [hp] at HC hpk
              clear hcall hs hk hk1 hk3 hr hp
              cases i with
              | zero =>
                go_wp2_with (first
                  | (refine wpList_load_mid rfl 25 (.tmp 32) rfl g (b + 0 * 3) (by simp [Act.eval]) [.int .i64 k.org, .int .i64 k.nd, .slice A' n' c'] _ HR.out Tryd.underlying25 rfl (by kernel_rfl) ?_)
                  | (go_at_call 21; (with_reducible refine (HC.out _ (HK.out.alloc _)).mono ?_); rintro e w5 ⟨rfl, hb5⟩; have HX5 := Lib.hid (below_step (HX.out.alloc HX.out.size _) hb5); clear hb5))
                go_roundw
                case rel => exact ⟨1, u ++ p, by omega, by go_num, rfl, HX5.out, by rw [HS.out, restP_0, HPk.out, List.append_assoc]⟩
                case measure => simp [intOf] <;> omega
              | succ i =>
                go_wp2_with (first
                  | (refine wpList_load_mid rfl 25 (.tmp 32) rfl g (b + (i + 1) * 3) (by simp [Act.eval]) [.int .i64 k.org, .int .i64 k.nd, .slice A' n' c'] _ HR.out Tryd.underlying25 rfl (by kernel_rfl) ?_)
                  | (go_at_call 21; (with_reducible refine (HC.out _ (HK.out.alloc _)).mono ?_); rintro e w5 ⟨rfl, hb5⟩; have HX5 := Lib.hid (below_step (HX.out.alloc HX.out.size _) hb5); clear hb5))
                go_roundw
                case rel => exact ⟨i + 1 + 1, u ++ [44] ++ p, by omega, by go_num, by first | rfl | simp, HX5.out, by rw [HS.out, restP_s (by omega), HPk.out]; simp⟩
                case measure => simp [intOf] <;> omega
            · obtain rfl : i = n := by omega
              rw [List.drop_of_length_le (by omega), restP_e] at hs
              have HS := Lib.hid hs
              clear hs
              go_wp2
              go_ret
              exact ⟨by first | exact ret_str' HS.out.symm | (rw [HS.out]; rfl), HX.out⟩

end Go.Proofs.YtnpobhgecfjfgaaDoor
