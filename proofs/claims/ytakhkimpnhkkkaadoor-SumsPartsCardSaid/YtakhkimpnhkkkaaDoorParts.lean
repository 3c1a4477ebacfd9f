/-
  SumsParts, walked: however the bytes are cut.
-/
import Derived.Test.YtakhkimpnhkkkaaDoorFix2
import Derived.Test.YtakhkimpnhkkkaaDoorEql
import Derived.IntWalk
import Derived.Outline
namespace Go.Proofs.YtakhkimpnhkkkaaDoor
open Go.RowKit

set_option maxHeartbeats 400000 in
theorem add_nil (v : Value) (w : World) : Calls Tryd.prog 10 #[.pointer none, v] w fun e w' => e = .returned (.tuple #[]) ∧ w = w' := by
  go_enter Tryd.func10, Tryd.ntmps10
  go_wp2
  exact bodyPost_ret (v := .tuple #[]) (by kernel_rfl) rfl ⟨rfl, rfl⟩

/-- Too many: true, and nothing is touched. -/
theorem parts_far (A0 A1 A2 : Option Addr) (n0 n1 n2 c0 c1 c2 : Nat) (w : World) (ht : Tab w) (hb : 2000 < n0 ∨ 100 < n1 ∨ 500 < n2) :
    Calls Tryd.prog 4 #[.slice A0 n0 c0, .slice A1 n1 c1, .slice A2 n2 c2] w fun e w' => e = .returned (.bool true) ∧ Below w.heap.size w w' := by
  have HT := Lib.hid ht
  clear ht
  by_cases h0 : 2000 < n0
  · have d0 : decide (2000 < (n0 : Int)) = true := by simp; omega
    clear hb
    go_enter Tryd.func4, Tryd.ntmps4
    go_wp2_with (go_at_call 6; refine (fixed_any _ HT.out).mono ?_; rintro e w1 ⟨rfl, hx1⟩)
    go_ret
    exact ⟨rfl, hx1⟩
  · have d0 : decide (2000 < (n0 : Int)) = false := by simp; omega
    by_cases h1 : 100 < n1
    · have d1 : decide (100 < (n1 : Int)) = true := by simp; omega
      clear hb
      go_enter Tryd.func4, Tryd.ntmps4
      go_wp2_with (go_at_call 6; refine (fixed_any _ HT.out).mono ?_; rintro e w1 ⟨rfl, hx1⟩)
      go_ret
      exact ⟨rfl, hx1⟩
    · have d1 : decide (100 < (n1 : Int)) = false := by simp; omega
      have d2 : decide (500 < (n2 : Int)) = true := by simp; omega
      clear hb
      go_enter Tryd.func4, Tryd.ntmps4
      go_wp2_with (go_at_call 6; refine (fixed_any _ HT.out).mono ?_; rintro e w1 ⟨rfl, hx1⟩)
      go_ret
      exact ⟨rfl, hx1⟩

theorem own_through {w w' : World} {base n : Nat} {v : Value} {xs : List Value} {e : TypeId} (h : w.ownsRow base e 1 v n xs) (hb : Below w.heap.size w w') : w'.ownsRow base e 1 v n xs := by
  refine ⟨h.1, ?_⟩
  rcases h.2 with h2 | ⟨g, cap, cur, hv, hbg, hg, r⟩
  · exact .inl h2
  · exact .inr ⟨g, cap, cur, hv, hbg, (hb.block g (Array.getElem?_eq_some_iff.1 hg).1).trans hg, r⟩

theorem below_new {w w' : World} {o : Obj} (ho : (w.alloc o).grownBy w' (some w.heap.size)) : Below w.heap.size w w' :=
  ((Below.refl _ w).alloc (Nat.le_refl _) o).grown ho (by simp) (fun k hk => Option.some.inj hk ▸ Nat.le_refl _)

theorem own_made (w : World) : (w.alloc (.cells #[] 5)).ownsRow w.heap.size 5 1 (.slice (some ⟨w.heap.size, 0, none⟩) 0 0) 0 (vs []) := World.ownsRow_made w #[] 0 (Nat.le_refl _) (Nat.zero_le _) rfl

theorem made_step {v W : World} (h : Below v.heap.size v W) : Below v.heap.size v (W.alloc (.cells #[] 5)) ∧ (W.alloc (.cells #[] 5)).ownsRow v.heap.size 5 1 (.slice (some ⟨W.heap.size, 0, none⟩) 0 0) 0 (vs []) :=
  ⟨h.alloc h.size _, own_weak (own_made W) h.size⟩

set_option maxHeartbeats 16000000 in
set_option maxRecDepth 100000 in
theorem parts_near (Q0 Q1 Q2 : Nat → Prop) (xs cs ys : List UInt8) (A0 A1 A2 : Option Addr) (n0 n1 n2 c0 c1 c2 : Nat) (w : World) (ht : Tab w) (hb0 : By w Q0 A0 n0 xs) (hb1 : By w Q1 A1 n1 cs) (hb2 : By w Q2 A2 n2 ys)
    (hc0 : n0 ≤ c0) (hm0 : c0 ≤ maxLen) (hc2 : n2 ≤ c2) (hm2 : c2 ≤ maxLen) (h0 : n0 ≤ 2000) (h1 : n1 ≤ 100) (h2 : n2 ≤ 500) :
    Calls Tryd.prog 4 #[.slice A0 n0 c0, .slice A1 n1 c1, .slice A2 n2 c2] w fun e w' => e = .returned (.bool true) ∧ Below w.heap.size w w' := by
  have hl0 := hb0.len
  have hl1 := hb1.len
  have hl2 := hb2.len
  have HL0 := Lib.hid hl0
  have HL1 := Lib.hid hl1
  have HL2 := Lib.hid hl2
  have HB0 : Hid (By w (fun k => k < w.heap.size) A0 n0 xs) := Lib.hid (hb0.lt.weak fun _ h => h.2)
  have HB1 : Hid (By w (fun k => k < w.heap.size) A1 n1 cs) := Lib.hid (hb1.lt.weak fun _ h => h.2)
  have HB2 : Hid (By w (fun k => k < w.heap.size) A2 n2 ys) := Lib.hid (hb2.lt.weak fun _ h => h.2)
  have HT := Lib.hid ht
  have HG0 := Lib.hid ht.lt.1
  have HG1 := Lib.hid ht.lt.2
  have d0 : decide (2000 < (n0 : Int)) = false := by simp; omega
  have d1 : decide (100 < (n1 : Int)) = false := by simp; omega
  have d2 : decide (500 < (n2 : Int)) = false := by simp; omega
  have HM0 := Lib.hid hm0
  have HM2 := Lib.hid hm2
  unfold maxLen at hm0 hm2
  clear ht hb0 hb1 hb2 hl0 hl1 hl2
  go_enter Tryd.func4, Tryd.ntmps4
  go_wp2_with (first
    | (go_at_call 6; refine (fixed_any _ HT.out).mono ?_; rintro e w1 ⟨rfl, hx1⟩; have HX1 := Lib.hid hx1; clear hx1)
    | (go_at_call 9; refine (new_any _).mono ?_; rintro e w2 ⟨rfl, hs2, hx2⟩; have HS2 := Lib.hid hs2; have HX2 := Lib.hid hx2; clear hs2 hx2))
  obtain ⟨g, hg⟩ : ∃ g, g = w1.heap.size := ⟨_, rfl⟩
  rw [← hg] at HS2
  have hwg : w.heap.size ≤ g := by rw [hg]; exact HX1.out.size
  have hx12 : Below w.heap.size w w2 := HX1.out.trans (HX2.out.mono HX1.out.size)
  have hH : HS w2 g [] := HS2.out
  rw [← hg]
  clear hg
  have HHS := Lib.hid hH
  have HXX := Lib.hid hx12
  clear hH hx12 HS2
  go_loopw [8, 34] (fun b i wr => ∃ (k d : Nat) (A' : Option Addr) (c' : Nat), k ≤ n1 ∧ d ≤ n0 ∧ i = .int .i64 k ∧ b = .slice A' (n0 - d) c' ∧ n0 - d ≤ c' ∧ c' ≤ 9223372036854775807 ∧ By wr (· < w.heap.size) A' (n0 - d) (xs.drop d) ∧ HS wr g (xs.take d) ∧ Below w.heap.size w wr) (fun _ i _ => n1 - (intOf i).toNat)
  case atStart => exact ⟨0, 0, A0, c0, Nat.zero_le _, Nat.zero_le _, rfl, rfl, hc0, hm0, (HB0.out.through HXX.out), HHS.out, HXX.out⟩
  case round =>
    obtain ⟨k, d, A', c', hk, hd, rfl, rfl, hnc, hcm, hy, hs, hx⟩ := hrel
    clear HHS HXX
    by_cases hlt : k < n1
    · as_aux_lemma =>
      obtain ⟨gc, oc, rfl, hcell⟩ := (HB1.out.through hx).cell k (by rw [HL1.out]; exact hlt)
      unfold u8 at hcell
      have hlk : k < cs.length := by rw [HL1.out]; exact hlt
      generalize cs[k] = x at hcell
      have hxt := x.toNat_lt
      have HY := Lib.hid hy
      have HSs := Lib.hid hs
      have HX := Lib.hid hx
      have HCM : Hid (c' ≤ maxLen) := Lib.hid (by unfold maxLen; exact hcm)
      have HG0' := Lib.hid (Nat.lt_of_lt_of_le HG0.out hwg)
      have HG1' := Lib.hid (Nat.lt_of_lt_of_le HG1.out hwg)
      by_cases hxm : n0 - d < x.toNat
      · have hlt2 : ((n0 - d : Nat) : Int) < (x.toNat : Int) := by omega
        have hm1 : n0 - d ≤ n0 - d := Nat.le_refl _
        have hcat : xs.take d ++ (xs.drop d).take (n0 - d) = xs.take (d + (n0 - d)) := by rw [List.take_add]
        have hlen : (xs.take d).length + (n0 - d) ≤ 1099511627776 := by rw [List.length_take]; omega
        have hcut := fun (W : World) => run_cut (P := Tryd.prog) W 22 5 A' (n0 - d) c' .i64 (n0 - d) Tryd.underlying22 (by kernel_rfl) hm1
        have HCat := Lib.hid hcat
        have HLen := Lib.hid hlen
        have HYm : Hid (By wr (· ≠ g) A' (n0 - d) ((xs.drop d).take (n0 - d))) := Lib.hid ((HY.out.take hm1).weak fun k hk e => by omega)
        have HNC : Hid ((n0 - d) ≤ c') := Lib.hid (by omega)
        clear hy hs hx hcat hlen
        go_wp2_with (go_at_call 10; (with_reducible refine (add_any g (xs.take d) ((xs.drop d).take (n0 - d)) A' (n0 - d) c' _ HYm.out HNC.out HCM.out HSs.out (HT.out.through HX.out) HG0'.out HG1'.out HLen.out).mono ?_); rintro e w5 ⟨rfl, hs5, ho5⟩; have HS5 := Lib.hid hs5; have HO5 := Lib.hid ho5; clear hs5 ho5)
        go_roundw
        case rel =>
          have hx5 := HX.out.grown HO5.out HX.out.size (fun k hk => by injection hk with hk; omega)
          have e : n0 - d - (n0 - d) = n0 - (d + (n0 - d)) := by omega
          refine ⟨k + 1, d + (n0 - d), cutA A' c' (n0 - d), c' - (n0 - d), by omega, by omega, by go_num, by first | (rw [← e]; done) | (rw [← e]; simp), by omega, by omega, ?_, by rw [← HCat.out]; exact HS5.out, hx5⟩
          have h := HY.out.cut hm1 hnc
          rw [List.drop_drop, e] at h
          exact (h.lt.keep fun q hq => HO5.out.block q hq.2 (fun e => by injection e with e; have := hq.1; omega)).weak fun _ hq => hq.1
        case measure => simp [intOf]; omega
      · have hlt2 : ¬ ((n0 - d : Nat) : Int) < (x.toNat : Int) := by omega
        have hm1 : x.toNat ≤ n0 - d := by omega
        have hcat : xs.take d ++ (xs.drop d).take x.toNat = xs.take (d + x.toNat) := by rw [List.take_add]
        have hlen : (xs.take d).length + x.toNat ≤ 1099511627776 := by rw [List.length_take]; omega
        have hcut := fun (W : World) => run_cut (P := Tryd.prog) W 22 5 A' (n0 - d) c' .i64 x.toNat Tryd.underlying22 (by kernel_rfl) hm1
        have HCat := Lib.hid hcat
        have HLen := Lib.hid hlen
        have HYm : Hid (By wr (· ≠ g) A' x.toNat ((xs.drop d).take x.toNat)) := Lib.hid ((HY.out.take hm1).weak fun k hk e => by omega)
        have HNC : Hid (x.toNat ≤ c') := Lib.hid (by omega)
        clear hy hs hx hcat hlen
        go_wp2_with (go_at_call 10; (with_reducible refine (add_any g (xs.take d) ((xs.drop d).take x.toNat) A' x.toNat c' _ HYm.out HNC.out HCM.out HSs.out (HT.out.through HX.out) HG0'.out HG1'.out HLen.out).mono ?_); rintro e w5 ⟨rfl, hs5, ho5⟩; have HS5 := Lib.hid hs5; have HO5 := Lib.hid ho5; clear hs5 ho5)
        go_roundw
        case rel =>
          have hx5 := HX.out.grown HO5.out HX.out.size (fun k hk => by injection hk with hk; omega)
          have e : n0 - d - x.toNat = n0 - (d + x.toNat) := by omega
          refine ⟨k + 1, d + x.toNat, cutA A' c' x.toNat, c' - x.toNat, by omega, by omega, by go_num, by first | (rw [← e]; done) | (rw [← e]; simp), by omega, by omega, ?_, by rw [← HCat.out]; exact HS5.out, hx5⟩
          have h := HY.out.cut hm1 hnc
          rw [List.drop_drop, e] at h
          exact (h.lt.keep fun q hq => HO5.out.block q hq.2 (fun e => by injection e with e; have := hq.1; omega)).weak fun _ hq => hq.1
        case measure => simp [intOf]; omega
    · as_aux_lemma =>
      have HY := Lib.hid hy
      have HSs := Lib.hid hs
      have HX := Lib.hid hx
      have HCM : Hid (c' ≤ maxLen) := Lib.hid (by unfold maxLen; exact hcm)
      have HG0' := Lib.hid (Nat.lt_of_lt_of_le HG0.out hwg)
      have HG1' := Lib.hid (Nat.lt_of_lt_of_le HG1.out hwg)
      have HLen : Hid ((xs.take d).length + (n0 - d) ≤ 1099511627776) := Lib.hid (by rw [List.length_take]; omega)
      have HYm : Hid (By wr (· ≠ g) A' (n0 - d) (xs.drop d)) := Lib.hid (HY.out.weak fun k hk e => by omega)
      have hT := HT.out.through HX.out
      have HTr := Lib.hid hT
      obtain ⟨r, hr⟩ : ∃ r, r = sha xs := ⟨_, rfl⟩
      obtain ⟨r2, hr2⟩ : ∃ r2, r2 = sha (xs ++ ys) := ⟨_, rfl⟩
      have hrl : r.length = 32 := by rw [hr, sha_length]
      have hr2l : r2.length = 32 := by rw [hr2, sha_length]
      have HR := Lib.hid hr
      have HR2 := Lib.hid hr2
      have HRl := Lib.hid hrl
      have HR2l := Lib.hid hr2l
      have hvl : (vs r).length = 32 := by rw [vs_length, hrl]
      have HVl := Lib.hid hvl
      have hxl : xs.length ≤ 549755813888 := by rw [HL0.out]; omega
      have hxyl : (xs ++ ys).length ≤ 549755813888 := by rw [List.length_append, HL0.out, HL2.out]; omega
      have HLen2 : Hid (xs.length + n2 ≤ 1099511627776) := Lib.hid (by rw [HL0.out]; omega)
      have HXl := Lib.hid hxl
      have HXYl := Lib.hid hxyl
      have hsum : ∀ W, HS W g xs → Tab W → Calls Tryd.prog 11 #[.pointer (some ⟨g, 0, none⟩)] W fun e w' => e = .returned (.agg (vs r).toArray) ∧ Below W.heap.size W w' := fun W h1 h2 => by
        rw [hr]; exact sum_any g xs W h1 h2 hxl
      have HSum := Lib.hid hsum
      clear hy hs hx hr hr2 hrl hr2l hvl hxl hxyl hT hsum
      go_wp2_with (first
        | (go_at_call 10; (with_reducible refine (add_any g (xs.take d) (xs.drop d) A' (n0 - d) c' _ HYm.out hnc HCM.out HSs.out HTr.out HG0'.out HG1'.out HLen.out).mono ?_); rintro e w5 ⟨rfl, hs5, ho5⟩; have HS5 : Hid (HS w5 g xs) := Lib.hid (by rw [List.take_append_drop] at hs5; exact hs5); have HX5 := Lib.hid (HX.out.grown ho5 HX.out.size (fun k hk => by injection hk with hk; omega)); clear hs5 ho5)
        | (go_at_call 11; (with_reducible refine (HSum.out w5 HS5.out (HT.out.through HX5.out)).mono ?_); rintro e w6 ⟨rfl, hx6⟩; have HX6 := Lib.hid hx6; clear hx6)
        | (refine wpList_store_blk rfl 25 (.tmp 12) (.tmp 56) rfl w6.heap.size (vs r) rfl rfl 25 (vs zero32) (Blk.fresh rfl (by kernel_rfl)) (by rw [HVl.out]; kernel_rfl) (by rw [HVl.out]; rfl) one_u8 ?_; intro w7 hb7 ho7; have HB7 := Lib.hid hb7; have HX7 := Lib.hid (below_new ho7); clear hb7 ho7; have HS7 := Lib.hid ((HS5.out.through HX6.out).through HX7.out); have HW7 := Lib.hid ((HX5.out.trans (HX6.out.mono HX5.out.size)).trans (HX7.out.mono (Nat.le_trans HX5.out.size HX6.out.size))))
        | (go_at_call 11; (with_reducible refine (HSum.out w7 HS7.out (HT.out.through HW7.out)).mono ?_); rintro e w8 ⟨rfl, hx8⟩; have HX8 := Lib.hid hx8; clear hx8)
        | (refine wpList_store_blk rfl 25 (.tmp 13) (.tmp 58) rfl w8.heap.size (vs r) rfl rfl 25 (vs zero32) (Blk.fresh rfl (by kernel_rfl)) (by rw [HVl.out]; kernel_rfl) (by rw [HVl.out]; rfl) one_u8 ?_; intro w9 hb9 ho9; have HB9 := Lib.hid hb9; have HX9 := Lib.hid (below_new ho9); clear hb9 ho9; have HS9 := Lib.hid ((HS7.out.through HX8.out).through HX9.out); have HW9 := Lib.hid ((HW7.out.trans (HX8.out.mono HW7.out.size)).trans (HX9.out.mono (Nat.le_trans HW7.out.size HX8.out.size))); have HB79 := Lib.hid ((HB7.out.through HX8.out).through HX9.out); have HY9 : Hid (By w9 (· ≠ g) A2 n2 ys) := Lib.hid ((HB2.out.through HW9.out).weak fun k hk e => by omega))
        | (go_at_call 10; (with_reducible refine (add_any g xs ys A2 n2 c2 w9 HY9.out hc2 HM2.out HS9.out (HT.out.through HW9.out) HG0'.out HG1'.out HLen2.out).mono ?_); rintro e w10 ⟨rfl, hs10, ho10⟩; have HS10 := Lib.hid hs10; have HO10 := Lib.hid ho10; clear hs10 ho10)
        | (go_at_call 10; refine (add_nil _ _).mono ?_; rintro e w' ⟨rfl, rfl⟩))
      have hx10 := HW9.out.grown HO10.out HW9.out.size (fun k hk => by injection hk with hk; omega)
      have hg5 := HS5.out.lt
      have hs56 := HX6.out.size
      have hs67 := HX7.out.size
      have hs78 := HX8.out.size
      obtain ⟨B12, hB12⟩ : ∃ B12, B12 = w6.heap.size := ⟨_, rfl⟩
      obtain ⟨B13, hB13⟩ : ∃ B13, B13 = w8.heap.size := ⟨_, rfl⟩
      have hb12 : Blk w10 B12 25 (vs r) := by rw [hB12]; exact HB79.out.grown HO10.out (by simp; omega)
      have hb13 : Blk w10 B13 25 (vs r) := by rw [hB13]; exact HB9.out.grown HO10.out (by simp; omega)
      have ha0 : By w10 (fun _ => True) A0 n0 xs := (HB0.out.through hx10).weak (fun _ _ => trivial)
      have ha2 : By w10 (fun _ => True) A2 n2 ys := (HB2.out.through hx10).weak (fun _ _ => trivial)
      have hT10 : Tab w10 := HT.out.through hx10
      have HL12 := Lib.hid (fun (W : World) (hW : Below w10.heap.size w10 W) => (hb12.through hW).loadAt (P := Tryd.prog) 25 _ Tryd.underlying25 rfl (by rw [HVl.out]; kernel_rfl))
      have HL13 := Lib.hid (fun (W : World) (hW : Below w10.heap.size w10 W) => (hb13.through hW).loadAt (P := Tryd.prog) 25 _ Tryd.underlying25 rfl (by rw [HVl.out]; kernel_rfl))
      have heq1 := fun (W : World) => run_eql_bytes (P := Tryd.prog) W 25 5 32 Tryd.underlying25 Tryd.underlying5 (by kernel_rfl) (by kernel_rfl) r r HRl.out HRl.out
      rw [beq_self_eq_true] at heq1
      have heq2 := fun (W : World) => run_eql_bytes (P := Tryd.prog) W 25 5 32 Tryd.underlying25 Tryd.underlying5 (by kernel_rfl) (by kernel_rfl) r2 r2 HR2l.out HR2l.out
      rw [beq_self_eq_true] at heq2
      have heq3 := fun (W : World) => run_eql_bytes (P := Tryd.prog) W 25 5 32 Tryd.underlying25 Tryd.underlying5 (by kernel_rfl) (by kernel_rfl) zero32 zero32 rfl rfl
      rw [beq_self_eq_true] at heq3
      have hbd : ∀ (W : World), (Instr.build 25 #[]).run Tryd.prog W = .ok (.agg (vs zero32).toArray) W := fun W => by kernel_rfl
      have hmk : ∀ (W : World), (Instr.buildSlice 22 0 #[]).run Tryd.prog W = .ok (.slice (some ⟨W.heap.size, 0, none⟩) 0 0) (W.alloc (.cells #[] 5)) := fun W => by kernel_rfl
      have hwr : IntKind.i64.wrap ((n0 : Int) + n2) = n0 + n2 := by rw [IntWalk.i64_in _ (by omega)]
      have CB : Hid (∀ W, Below w10.heap.size w10 W → Calls Tryd.prog 7 #[.slice A0 n0 c0] W fun e w' => e = .returned (.agg (vs r).toArray) ∧ Below W.heap.size W w') := Lib.hid fun W hW => by
        rw [HR.out]; exact sumb_any _ xs A0 n0 c0 W (ha0.through hW) hc0 HM0.out (hT10.through hW) (by omega)
      have CH : Hid (∀ W, Below w10.heap.size w10 W → Calls Tryd.prog 11 #[.pointer (some ⟨g, 0, none⟩)] W fun e w' => e = .returned (.agg (vs r2).toArray) ∧ Below W.heap.size W w') := Lib.hid fun W hW => by
        rw [HR2.out]; exact sum_any g (xs ++ ys) W (HS10.out.through hW) (hT10.through hW) HXYl.out
      have CS2 : Hid (∀ W A c, Below w10.heap.size w10 W → By W (fun _ => True) A (n0 + n2) (xs ++ ys) → n0 + n2 ≤ c → c ≤ maxLen → Calls Tryd.prog 7 #[.slice A (n0 + n2) c] W fun e w' => e = .returned (.agg (vs r2).toArray) ∧ Below W.heap.size W w') := Lib.hid fun W A c hW hA hc hm => by
        rw [HR2.out]; exact sumb_any _ (xs ++ ys) A (n0 + n2) c W hA hc hm (hT10.through hW) (by omega)
      have CL : Hid (∀ W, Below w10.heap.size w10 W → Calls Tryd.prog 12 #[.pointer (some ⟨g, 0, none⟩)] W fun e w' => e = .returned (.int .i64 ((n0 : Int) + n2)) ∧ Below W.heap.size W w') := Lib.hid fun W hW =>
        (len_any g (xs ++ ys) W (HS10.out.through hW)).mono fun e w' ⟨he, hw⟩ => ⟨by rw [he, List.length_append, HL0.out, HL2.out]; rfl, hw ▸ Below.refl _ _⟩
      have CLN : Hid (∀ W, Below w10.heap.size w10 W → Calls Tryd.prog 12 #[.pointer none] W fun e w' => e = .returned (.int .i64 0) ∧ Below W.heap.size W w') := Lib.hid fun W _ =>
        (len_nil W).mono fun e w' ⟨he, hw⟩ => ⟨he, hw ▸ Below.refl _ _⟩
      have CSN : Hid (∀ W, Below w10.heap.size w10 W → Calls Tryd.prog 11 #[.pointer none] W fun e w' => e = .returned (.agg (vs zero32).toArray) ∧ Below W.heap.size W w') := Lib.hid fun W _ => sum_nil W
      obtain ⟨i0, hi, hz0, hz1, hz2⟩ := info_parts Tryd.info_u8
      have HX10 := Lib.hid hx10
      have HA0 := Lib.hid ha0
      have HA2 := Lib.hid ha2
      rw [← hB12, ← hB13]
      clear hx10 ha0 ha2 hT10 hb12 hb13 hB12 hB13 HY HSs HX HCM HLen HYm HTr HXl HXYl HSum HLen2 HS5 HX5 HX6 HB7 HX7 HS7 HW7 HX8 HB9 HX9 HS9 HW9 HB79 HY9 HB0 HB2 HT HL0 HL1 HL2 HR HR2 HRl HR2l HVl HM0 HM2
      refine wp_region_held_drew (S := fun W => Below w10.heap.size w10 W) (by kernel_rfl) (Below.refl _ _).drew (fun hHeld => ?_)
      change wpAnyH _ _ _ _ _ _ #[false, false, false, false, false, false, false, false, false, false, false, false, false, false, false, false, false, false, false, false, false, false, false, false, false, false, false, false, false, false, false, false, false, false, false, false, false, false, false, false, false, false] _ _
      refine wpAnyH_take (i := 0) (v := (.agg (vs r).toArray)) rfl (by kernel_rfl) (by kernel_rfl) (by kernel_rfl) (fun _ _ _ h => h) (yields_load_at (by kernel_rfl) 25 (.tmp 12) rfl (.pointer (some ⟨B12, 0, none⟩)) (by simp [Act.eval]) (.agg (vs r).toArray) HL12.out) (by assumption) ?_
      change wpAnyH _ _ _ _ _ _ _ (Act.put _ (some (65 : Nat)) (.agg (vs r).toArray)) _
      simp only [Act.put, List.setIfInBounds_toArray, List.set_cons_zero, List.set_cons_succ]
      refine wpAnyH_take (i := 1) (v := (.slice A0 n0 c0)) rfl (by kernel_rfl) (by kernel_rfl) (by kernel_rfl) (fun _ _ _ h => h) (Or.inl ⟨by kernel_rfl, fun w hSw => ?_⟩) (by assumption) ?_
      · (try dsimp only at hSw); go_simp <;> (try rfl)
      change wpAnyH _ _ _ _ _ _ _ (Act.put _ (some (66 : Nat)) (.slice A0 n0 c0)) _
      simp only [Act.put, List.setIfInBounds_toArray, List.set_cons_zero, List.set_cons_succ]
      refine wpAnyH_ready (rs := [2]) (by kernel_rfl) (by simp) ?_
      refine AllReadyH.cons rfl (fun K hK => ?_) AllReadyH.nil
      go_simp
      refine (CB.out _ hHeld).mono ?_
      rintro e w21 ⟨rfl, hb21⟩; have HB21 := Lib.hid (below_step hHeld hb21); clear hb21
      go_wp2_with fail
      refine hK.out _ _ HB21.out (fun hHeld1 => ?_)
      clear hHeld hK K
      have hHeld := hHeld1
      clear hHeld1
      refine wpAnyH_take (i := 3) (v := (.bool true)) rfl (by kernel_rfl) (by kernel_rfl) (by kernel_rfl) (fun _ _ _ h => h) (Or.inl ⟨by kernel_rfl, fun w hSw => ?_⟩) (by assumption) ?_
      · (try dsimp only at hSw); go_simp <;> (try rfl)
      change wpAnyH _ _ _ _ _ _ _ (Act.put _ (some (68 : Nat)) (.bool true)) _
      simp only [Act.put, List.setIfInBounds_toArray, List.set_cons_zero, List.set_cons_succ]
      refine wpAnyH_take (i := 4) (v := (.bool true)) rfl (by kernel_rfl) (by kernel_rfl) (by kernel_rfl) (fun _ _ _ h => h) (Or.inl ⟨by kernel_rfl, fun w hSw => ?_⟩) (by assumption) ?_
      · (try dsimp only at hSw); go_simp <;> (try rfl)
      change wpAnyH _ _ _ _ _ _ _ (Act.put _ (some (69 : Nat)) (.bool true)) _
      simp only [Act.put, List.setIfInBounds_toArray, List.set_cons_zero, List.set_cons_succ]
      refine wpAnyH_take (i := 5) (v := (.agg (vs r).toArray)) rfl (by kernel_rfl) (by kernel_rfl) (by kernel_rfl) (fun _ _ _ h => h) (yields_load_at (by kernel_rfl) 25 (.tmp 13) rfl (.pointer (some ⟨B13, 0, none⟩)) (by simp [Act.eval]) (.agg (vs r).toArray) HL13.out) (by assumption) ?_
      change wpAnyH _ _ _ _ _ _ _ (Act.put _ (some (70 : Nat)) (.agg (vs r).toArray)) _
      simp only [Act.put, List.setIfInBounds_toArray, List.set_cons_zero, List.set_cons_succ]
      refine wpAnyH_take (i := 6) (v := (.agg (vs r).toArray)) rfl (by kernel_rfl) (by kernel_rfl) (by kernel_rfl) (fun _ _ _ h => h) (yields_load_at (by kernel_rfl) 25 (.tmp 12) rfl (.pointer (some ⟨B12, 0, none⟩)) (by simp [Act.eval]) (.agg (vs r).toArray) HL12.out) (by assumption) ?_
      change wpAnyH _ _ _ _ _ _ _ (Act.put _ (some (71 : Nat)) (.agg (vs r).toArray)) _
      simp only [Act.put, List.setIfInBounds_toArray, List.set_cons_zero, List.set_cons_succ]
      refine wpAnyH_take (i := 7) (v := (.bool true)) rfl (by kernel_rfl) (by kernel_rfl) (by kernel_rfl) (fun _ _ _ h => h) (Or.inl ⟨by kernel_rfl, fun w hSw => ?_⟩) (by assumption) ?_
      · (try dsimp only at hSw); go_simp <;> (try rfl)
      change wpAnyH _ _ _ _ _ _ _ (Act.put _ (some (72 : Nat)) (.bool true)) _
      simp only [Act.put, List.setIfInBounds_toArray, List.set_cons_zero, List.set_cons_succ]
      refine wpAnyH_take (i := 8) (v := (.bool true)) rfl (by kernel_rfl) (by kernel_rfl) (by kernel_rfl) (fun _ _ _ h => h) (Or.inl ⟨by kernel_rfl, fun w hSw => ?_⟩) (by assumption) ?_
      · (try dsimp only at hSw); go_simp <;> (try rfl)
      change wpAnyH _ _ _ _ _ _ _ (Act.put _ (some (73 : Nat)) (.bool true)) _
      simp only [Act.put, List.setIfInBounds_toArray, List.set_cons_zero, List.set_cons_succ]
      refine wpAnyH_take (i := 9) (v := (.bool true)) rfl (by kernel_rfl) (by kernel_rfl) (by kernel_rfl) (fun _ _ _ h => h) (Or.inl ⟨by kernel_rfl, fun w hSw => ?_⟩) (by assumption) ?_
      · (try dsimp only at hSw); go_simp <;> (try rfl)
      change wpAnyH _ _ _ _ _ _ _ (Act.put _ (some (74 : Nat)) (.bool true)) _
      simp only [Act.put, List.setIfInBounds_toArray, List.set_cons_zero, List.set_cons_succ]
      refine wpAnyH_take (i := 10) (v := (.pointer (some ⟨g, 0, none⟩))) rfl (by kernel_rfl) (by kernel_rfl) (by kernel_rfl) (fun _ _ _ h => h) (Or.inl ⟨by kernel_rfl, fun w hSw => ?_⟩) (by assumption) ?_
      · (try dsimp only at hSw); go_simp <;> (try rfl)
      change wpAnyH _ _ _ _ _ _ _ (Act.put _ (some (75 : Nat)) (.pointer (some ⟨g, 0, none⟩))) _
      simp only [Act.put, List.setIfInBounds_toArray, List.set_cons_zero, List.set_cons_succ]
      refine wpAnyH_take (i := 13) (v := (.slice A0 n0 c0)) rfl (by kernel_rfl) (by kernel_rfl) (by kernel_rfl) (fun _ _ _ h => h) (Or.inl ⟨by kernel_rfl, fun w hSw => ?_⟩) (by assumption) ?_
      · (try dsimp only at hSw); go_simp <;> (try rfl)
      change wpAnyH _ _ _ _ _ _ _ (Act.put _ (some (78 : Nat)) (.slice A0 n0 c0)) _
      simp only [Act.put, List.setIfInBounds_toArray, List.set_cons_zero, List.set_cons_succ]
      refine wpAnyH_take (i := 15) (v := (.slice A2 n2 c2)) rfl (by kernel_rfl) (by kernel_rfl) (by kernel_rfl) (fun _ _ _ h => h) (Or.inl ⟨by kernel_rfl, fun w hSw => ?_⟩) (by assumption) ?_
      · (try dsimp only at hSw); go_simp <;> (try rfl)
      change wpAnyH _ _ _ _ _ _ _ (Act.put _ (some (80 : Nat)) (.slice A2 n2 c2)) _
      simp only [Act.put, List.setIfInBounds_toArray, List.set_cons_zero, List.set_cons_succ]
      refine wpAnyH_ready (rs := [11, 12]) (by kernel_rfl) (by simp) ?_
      refine AllReadyH.cons rfl (fun K hK => ?_) (AllReadyH.cons (o := ⟨some 77, .buildSlice 22 0 #[], _, _, _, _⟩) rfl (fun K hK => ?_) AllReadyH.nil)
      · as_aux_lemma =>
        go_simp
        refine (CH.out _ hHeld).mono ?_
        rintro e w22 ⟨rfl, hb22⟩; have HB22 := Lib.hid (below_step hHeld hb22); clear hb22
        go_wp2_with fail
        refine hK.out _ _ HB22.out (fun hHeld1 => ?_)
        clear hHeld hK K
        have hHeld := hHeld1
        clear hHeld1
        refine wpAnyH_ready (rs := [12]) (by kernel_rfl) (by simp) ?_
        refine AllReadyH.cons (o := ⟨some 77, .buildSlice 22 0 #[], _, _, _, _⟩) rfl (fun K hK => ?_) AllReadyH.nil
        refine step_build_empty (by kernel_rfl) 22 rfl (.slice (some ⟨_, 0, none⟩) 0 0) _ (hmk _) ?_; have HB12 := Lib.hid (made_step hHeld).1; have O12 := Lib.hid (made_step hHeld).2
        refine hK.out _ _ HB12.out (fun hHeld1 => ?_)
        clear hHeld hK K
        have hHeld := hHeld1
        clear hHeld1
        change wpAnyH _ _ _ _ _ _ _ (Act.put _ (some (77 : Nat)) (.slice (some ⟨_, 0, none⟩) 0 0)) _
        simp only [Act.put, List.setIfInBounds_toArray, List.set_cons_zero, List.set_cons_succ]
        refine wpAnyH_ready (rs := [14]) (by kernel_rfl) (by simp) ?_
        refine AllReadyH.cons (o := ⟨some 79, .call { callee := .builtin .append, args := #[.tmp 77, .tmp 78], argTypes := #[22, 22] }, _, _, _, _⟩) rfl (fun K hK => ?_) AllReadyH.nil
        refine step_append_by (by kernel_rfl) (.tmp 77) (.tmp 78) 22 rfl w10.heap.size i0 Tryd.underlying22 hi hz0 hz1 hz2 _ 0 [] (by simp [Act.eval]) O12.out (fun _ => True) A0 n0 c0 xs (by simp [Act.eval]) ((HA0.out.through hHeld)) (by omega) hHeld.size n0 (Nat.zero_add _) xs rfl ?_; intro A14 c14 w14 h14 hc14 hm14 hb14; have HB14 := Lib.hid (hHeld.trans hb14); have O14 := Lib.hid h14; clear h14 hb14
        refine hK.out _ _ HB14.out (fun hHeld1 => ?_)
        clear hHeld hK K
        have hHeld := hHeld1
        clear hHeld1
        change wpAnyH _ _ _ _ _ _ _ (Act.put _ (some (79 : Nat)) (.slice A14 n0 c14)) _
        simp only [Act.put, List.setIfInBounds_toArray, List.set_cons_zero, List.set_cons_succ]
        refine wpAnyH_ready (rs := [16]) (by kernel_rfl) (by simp) ?_
        refine AllReadyH.cons (o := ⟨some 81, .call { callee := .builtin .append, args := #[.tmp 79, .tmp 80], argTypes := #[22, 22] }, _, _, _, _⟩) rfl (fun K hK => ?_) AllReadyH.nil
        refine step_append_by (by kernel_rfl) (.tmp 79) (.tmp 80) 22 rfl w10.heap.size i0 Tryd.underlying22 hi hz0 hz1 hz2 _ n0 xs (by simp [Act.eval]) O14.out (fun _ => True) A2 n2 c2 ys (by simp [Act.eval]) ((HA2.out.through hHeld)) (by omega) hHeld.size (n0 + n2) rfl (xs ++ ys) rfl ?_; intro A16 c16 w16 h16 hc16 hm16 hb16; have HB16 := Lib.hid (hHeld.trans hb16); have O16 := Lib.hid h16; clear h16 hb16
        refine hK.out _ _ HB16.out (fun hHeld1 => ?_)
        clear hHeld hK K
        have hHeld := hHeld1
        clear hHeld1
        change wpAnyH _ _ _ _ _ _ _ (Act.put _ (some (81 : Nat)) (.slice A16 (n0 + n2) c16)) _
        simp only [Act.put, List.setIfInBounds_toArray, List.set_cons_zero, List.set_cons_succ]
        refine wpAnyH_ready (rs := [17]) (by kernel_rfl) (by simp) ?_
        refine AllReadyH.cons rfl (fun K hK => ?_) AllReadyH.nil
        go_simp
        refine (CS2.out _ A16 c16 hHeld ((By.of_own O16.out).weak (fun _ _ => trivial)) hc16 hm16).mono ?_
        rintro e w23 ⟨rfl, hb23⟩; have HB23 := Lib.hid (below_step hHeld hb23); clear hb23
        go_wp2_with fail
        refine hK.out _ _ HB23.out (fun hHeld1 => ?_)
        clear hHeld hK K
        have hHeld := hHeld1
        clear hHeld1
        refine wpAnyH_take (i := 18) (v := (.bool true)) rfl (by kernel_rfl) (by kernel_rfl) (by kernel_rfl) (fun _ _ _ h => h) (Or.inl ⟨by kernel_rfl, fun w hSw => ?_⟩) (by assumption) ?_
        · (try dsimp only at hSw); go_simp <;> (try rfl)
        change wpAnyH _ _ _ _ _ _ _ (Act.put _ (some (83 : Nat)) (.bool true)) _
        simp only [Act.put, List.setIfInBounds_toArray, List.set_cons_zero, List.set_cons_succ]
        refine wpAnyH_take (i := 19) (v := (.bool true)) rfl (by kernel_rfl) (by kernel_rfl) (by kernel_rfl) (fun _ _ _ h => h) (Or.inl ⟨by kernel_rfl, fun w hSw => ?_⟩) (by assumption) ?_
        · (try dsimp only at hSw); go_simp <;> (try rfl)
        change wpAnyH _ _ _ _ _ _ _ (Act.put _ (some (84 : Nat)) (.bool true)) _
        simp only [Act.put, List.setIfInBounds_toArray, List.set_cons_zero, List.set_cons_succ]
        refine wpAnyH_take (i := 20) (v := (.bool true)) rfl (by kernel_rfl) (by kernel_rfl) (by kernel_rfl) (fun _ _ _ h => h) (Or.inl ⟨by kernel_rfl, fun w hSw => ?_⟩) (by assumption) ?_
        · (try dsimp only at hSw); go_simp <;> (try rfl)
        change wpAnyH _ _ _ _ _ _ _ (Act.put _ (some (85 : Nat)) (.bool true)) _
        simp only [Act.put, List.setIfInBounds_toArray, List.set_cons_zero, List.set_cons_succ]
        refine wpAnyH_take (i := 21) (v := (.pointer (some ⟨g, 0, none⟩))) rfl (by kernel_rfl) (by kernel_rfl) (by kernel_rfl) (fun _ _ _ h => h) (Or.inl ⟨by kernel_rfl, fun w hSw => ?_⟩) (by assumption) ?_
        · (try dsimp only at hSw); go_simp <;> (try rfl)
        change wpAnyH _ _ _ _ _ _ _ (Act.put _ (some (86 : Nat)) (.pointer (some ⟨g, 0, none⟩))) _
        simp only [Act.put, List.setIfInBounds_toArray, List.set_cons_zero, List.set_cons_succ]
        refine wpAnyH_take (i := 23) (v := (.slice A0 n0 c0)) rfl (by kernel_rfl) (by kernel_rfl) (by kernel_rfl) (fun _ _ _ h => h) (Or.inl ⟨by kernel_rfl, fun w hSw => ?_⟩) (by assumption) ?_
        · (try dsimp only at hSw); go_simp <;> (try rfl)
        change wpAnyH _ _ _ _ _ _ _ (Act.put _ (some (88 : Nat)) (.slice A0 n0 c0)) _
        simp only [Act.put, List.setIfInBounds_toArray, List.set_cons_zero, List.set_cons_succ]
        refine wpAnyH_take (i := 24) (v := (.int .i64 n0)) rfl (by kernel_rfl) (by kernel_rfl) (by kernel_rfl) (fun _ _ _ h => h) (Or.inl ⟨by kernel_rfl, fun w hSw => ?_⟩) (by assumption) ?_
        · (try dsimp only at hSw); go_simp <;> (try rfl)
        change wpAnyH _ _ _ _ _ _ _ (Act.put _ (some (89 : Nat)) (.int .i64 n0)) _
        simp only [Act.put, List.setIfInBounds_toArray, List.set_cons_zero, List.set_cons_succ]
        refine wpAnyH_take (i := 25) (v := (.slice A2 n2 c2)) rfl (by kernel_rfl) (by kernel_rfl) (by kernel_rfl) (fun _ _ _ h => h) (Or.inl ⟨by kernel_rfl, fun w hSw => ?_⟩) (by assumption) ?_
        · (try dsimp only at hSw); go_simp <;> (try rfl)
        change wpAnyH _ _ _ _ _ _ _ (Act.put _ (some (90 : Nat)) (.slice A2 n2 c2)) _
        simp only [Act.put, List.setIfInBounds_toArray, List.set_cons_zero, List.set_cons_succ]
        refine wpAnyH_take (i := 26) (v := (.int .i64 n2)) rfl (by kernel_rfl) (by kernel_rfl) (by kernel_rfl) (fun _ _ _ h => h) (Or.inl ⟨by kernel_rfl, fun w hSw => ?_⟩) (by assumption) ?_
        · (try dsimp only at hSw); go_simp <;> (try rfl)
        change wpAnyH _ _ _ _ _ _ _ (Act.put _ (some (91 : Nat)) (.int .i64 n2)) _
        simp only [Act.put, List.setIfInBounds_toArray, List.set_cons_zero, List.set_cons_succ]
        refine wpAnyH_take (i := 27) (v := (.int .i64 ((n0 : Int) + n2))) rfl (by kernel_rfl) (by kernel_rfl) (by kernel_rfl) (fun _ _ _ h => h) (Or.inl ⟨by kernel_rfl, fun w hSw => ?_⟩) (by assumption) ?_
        · (try dsimp only at hSw); go_simp <;> (try rfl)
        change wpAnyH _ _ _ _ _ _ _ (Act.put _ (some (92 : Nat)) (.int .i64 ((n0 : Int) + n2))) _
        simp only [Act.put, List.setIfInBounds_toArray, List.set_cons_zero, List.set_cons_succ]
        refine wpAnyH_ready (rs := [22]) (by kernel_rfl) (by simp) ?_
        refine AllReadyH.cons rfl (fun K hK => ?_) AllReadyH.nil
        go_simp
        refine (CL.out _ hHeld).mono ?_
        rintro e w24 ⟨rfl, hb24⟩; have HB24 := Lib.hid (below_step hHeld hb24); clear hb24
        go_wp2_with fail
        refine hK.out _ _ HB24.out (fun hHeld1 => ?_)
        clear hHeld hK K
        have hHeld := hHeld1
        clear hHeld1
        refine wpAnyH_take (i := 28) (v := (.bool true)) rfl (by kernel_rfl) (by kernel_rfl) (by kernel_rfl) (fun _ _ _ h => h) (Or.inl ⟨by kernel_rfl, fun w hSw => ?_⟩) (by assumption) ?_
        · (try dsimp only at hSw); go_simp <;> (try rfl)
        change wpAnyH _ _ _ _ _ _ _ (Act.put _ (some (93 : Nat)) (.bool true)) _
        simp only [Act.put, List.setIfInBounds_toArray, List.set_cons_zero, List.set_cons_succ]
        refine wpAnyH_take (i := 29) (v := (.bool true)) rfl (by kernel_rfl) (by kernel_rfl) (by kernel_rfl) (fun _ _ _ h => h) (Or.inl ⟨by kernel_rfl, fun w hSw => ?_⟩) (by assumption) ?_
        · (try dsimp only at hSw); go_simp <;> (try rfl)
        change wpAnyH _ _ _ _ _ _ _ (Act.put _ (some (94 : Nat)) (.bool true)) _
        simp only [Act.put, List.setIfInBounds_toArray, List.set_cons_zero, List.set_cons_succ]
        refine wpAnyH_take (i := 30) (v := (.bool true)) rfl (by kernel_rfl) (by kernel_rfl) (by kernel_rfl) (fun _ _ _ h => h) (Or.inl ⟨by kernel_rfl, fun w hSw => ?_⟩) (by assumption) ?_
        · (try dsimp only at hSw); go_simp <;> (try rfl)
        change wpAnyH _ _ _ _ _ _ _ (Act.put _ (some (95 : Nat)) (.bool true)) _
        simp only [Act.put, List.setIfInBounds_toArray, List.set_cons_zero, List.set_cons_succ]
        refine wpAnyH_take (i := 31) (v := (.pointer none)) rfl (by kernel_rfl) (by kernel_rfl) (by kernel_rfl) (fun _ _ _ h => h) (Or.inl ⟨by kernel_rfl, fun w hSw => ?_⟩) (by assumption) ?_
        · (try dsimp only at hSw); go_simp <;> (try rfl)
        change wpAnyH _ _ _ _ _ _ _ (Act.put _ (some (96 : Nat)) (.pointer none)) _
        simp only [Act.put, List.setIfInBounds_toArray, List.set_cons_zero, List.set_cons_succ]
        refine wpAnyH_ready (rs := [32]) (by kernel_rfl) (by simp) ?_
        refine AllReadyH.cons rfl (fun K hK => ?_) AllReadyH.nil
        go_simp
        refine (CLN.out _ hHeld).mono ?_
        rintro e w25 ⟨rfl, hb25⟩; have HB25 := Lib.hid (below_step hHeld hb25); clear hb25
        go_wp2_with fail
        refine hK.out _ _ HB25.out (fun hHeld1 => ?_)
        clear hHeld hK K
        have hHeld := hHeld1
        clear hHeld1
        refine wpAnyH_take (i := 33) (v := (.bool true)) rfl (by kernel_rfl) (by kernel_rfl) (by kernel_rfl) (fun _ _ _ h => h) (Or.inl ⟨by kernel_rfl, fun w hSw => ?_⟩) (by assumption) ?_
        · (try dsimp only at hSw); go_simp <;> (try rfl)
        change wpAnyH _ _ _ _ _ _ _ (Act.put _ (some (98 : Nat)) (.bool true)) _
        simp only [Act.put, List.setIfInBounds_toArray, List.set_cons_zero, List.set_cons_succ]
        refine wpAnyH_take (i := 34) (v := (.bool true)) rfl (by kernel_rfl) (by kernel_rfl) (by kernel_rfl) (fun _ _ _ h => h) (Or.inl ⟨by kernel_rfl, fun w hSw => ?_⟩) (by assumption) ?_
        · (try dsimp only at hSw); go_simp <;> (try rfl)
        change wpAnyH _ _ _ _ _ _ _ (Act.put _ (some (99 : Nat)) (.bool true)) _
        simp only [Act.put, List.setIfInBounds_toArray, List.set_cons_zero, List.set_cons_succ]
        refine wpAnyH_take (i := 35) (v := (.bool true)) rfl (by kernel_rfl) (by kernel_rfl) (by kernel_rfl) (fun _ _ _ h => h) (Or.inl ⟨by kernel_rfl, fun w hSw => ?_⟩) (by assumption) ?_
        · (try dsimp only at hSw); go_simp <;> (try rfl)
        change wpAnyH _ _ _ _ _ _ _ (Act.put _ (some (100 : Nat)) (.bool true)) _
        simp only [Act.put, List.setIfInBounds_toArray, List.set_cons_zero, List.set_cons_succ]
        refine wpAnyH_take (i := 36) (v := (.pointer none)) rfl (by kernel_rfl) (by kernel_rfl) (by kernel_rfl) (fun _ _ _ h => h) (Or.inl ⟨by kernel_rfl, fun w hSw => ?_⟩) (by assumption) ?_
        · (try dsimp only at hSw); go_simp <;> (try rfl)
        change wpAnyH _ _ _ _ _ _ _ (Act.put _ (some (101 : Nat)) (.pointer none)) _
        simp only [Act.put, List.setIfInBounds_toArray, List.set_cons_zero, List.set_cons_succ]
        refine wpAnyH_take (i := 38) (v := (.agg (vs zero32).toArray)) rfl (by kernel_rfl) (by kernel_rfl) (by kernel_rfl) (fun _ _ _ h => h) (Or.inl ⟨by kernel_rfl, fun w hSw => ?_⟩) (by assumption) ?_
        · (try dsimp only at hSw); go_simp <;> (try rfl)
        change wpAnyH _ _ _ _ _ _ _ (Act.put _ (some (103 : Nat)) (.agg (vs zero32).toArray)) _
        simp only [Act.put, List.setIfInBounds_toArray, List.set_cons_zero, List.set_cons_succ]
        refine wpAnyH_ready (rs := [37]) (by kernel_rfl) (by simp) ?_
        refine AllReadyH.cons rfl (fun K hK => ?_) AllReadyH.nil
        go_simp
        refine (CSN.out _ hHeld).mono ?_
        rintro e w26 ⟨rfl, hb26⟩; have HB26 := Lib.hid (below_step hHeld hb26); clear hb26
        go_wp2_with fail
        refine hK.out _ _ HB26.out (fun hHeld1 => ?_)
        clear hHeld hK K
        have hHeld := hHeld1
        clear hHeld1
        refine wpAnyH_take (i := 39) (v := (.bool true)) rfl (by kernel_rfl) (by kernel_rfl) (by kernel_rfl) (fun _ _ _ h => h) (Or.inl ⟨by kernel_rfl, fun w hSw => ?_⟩) (by assumption) ?_
        · (try dsimp only at hSw); go_simp <;> (try rfl)
        change wpAnyH _ _ _ _ _ _ _ (Act.put _ (some (104 : Nat)) (.bool true)) _
        simp only [Act.put, List.setIfInBounds_toArray, List.set_cons_zero, List.set_cons_succ]
        refine wpAnyH_take (i := 40) (v := (.bool true)) rfl (by kernel_rfl) (by kernel_rfl) (by kernel_rfl) (fun _ _ _ h => h) (Or.inl ⟨by kernel_rfl, fun w hSw => ?_⟩) (by assumption) ?_
        · (try dsimp only at hSw); go_simp <;> (try rfl)
        change wpAnyH _ _ _ _ _ _ _ (Act.put _ (some (105 : Nat)) (.bool true)) _
        simp only [Act.put, List.setIfInBounds_toArray, List.set_cons_zero, List.set_cons_succ]
        refine wpAnyH_take (i := 41) (v := (.bool true)) rfl (by kernel_rfl) (by kernel_rfl) (by kernel_rfl) (fun _ _ _ h => h) (Or.inl ⟨by kernel_rfl, fun w hSw => ?_⟩) (by assumption) ?_
        · (try dsimp only at hSw); go_simp <;> (try rfl)
        change wpAnyH _ _ _ _ _ _ _ (Act.put _ (some (6 : Nat)) (.bool true)) _
        simp only [Act.put, List.setIfInBounds_toArray, List.set_cons_zero, List.set_cons_succ]
        refine wpAnyH_done (by kernel_rfl) ?_ _
        go_wp2_with fail
        go_ret
        exact ⟨by simp, HX10.out.trans (hHeld.mono HX10.out.size)⟩
      · as_aux_lemma =>
        refine step_build_empty (by kernel_rfl) 22 rfl (.slice (some ⟨_, 0, none⟩) 0 0) _ (hmk _) ?_; have HB12 := Lib.hid (made_step hHeld).1; have O12 := Lib.hid (made_step hHeld).2
        refine hK.out _ _ HB12.out (fun hHeld1 => ?_)
        clear hHeld hK K
        have hHeld := hHeld1
        clear hHeld1
        change wpAnyH _ _ _ _ _ _ _ (Act.put _ (some (77 : Nat)) (.slice (some ⟨_, 0, none⟩) 0 0)) _
        simp only [Act.put, List.setIfInBounds_toArray, List.set_cons_zero, List.set_cons_succ]
        refine wpAnyH_ready (rs := [11]) (by kernel_rfl) (by simp) ?_
        refine AllReadyH.cons rfl (fun K hK => ?_) AllReadyH.nil
        go_simp
        refine (CH.out _ hHeld).mono ?_
        rintro e w27 ⟨rfl, hb27⟩; have HB27 := Lib.hid (below_step hHeld hb27); have O12b := Lib.hid (own_through O12.out hb27); clear hb27
        go_wp2_with fail
        refine hK.out _ _ HB27.out (fun hHeld1 => ?_)
        clear hHeld hK K
        have hHeld := hHeld1
        clear hHeld1
        refine wpAnyH_ready (rs := [14]) (by kernel_rfl) (by simp) ?_
        refine AllReadyH.cons (o := ⟨some 79, .call { callee := .builtin .append, args := #[.tmp 77, .tmp 78], argTypes := #[22, 22] }, _, _, _, _⟩) rfl (fun K hK => ?_) AllReadyH.nil
        refine step_append_by (by kernel_rfl) (.tmp 77) (.tmp 78) 22 rfl w10.heap.size i0 Tryd.underlying22 hi hz0 hz1 hz2 _ 0 [] (by simp [Act.eval]) O12b.out (fun _ => True) A0 n0 c0 xs (by simp [Act.eval]) ((HA0.out.through hHeld)) (by omega) hHeld.size n0 (Nat.zero_add _) xs rfl ?_; intro A14 c14 w14 h14 hc14 hm14 hb14; have HB14 := Lib.hid (hHeld.trans hb14); have O14 := Lib.hid h14; clear h14 hb14
        refine hK.out _ _ HB14.out (fun hHeld1 => ?_)
        clear hHeld hK K
        have hHeld := hHeld1
        clear hHeld1
        change wpAnyH _ _ _ _ _ _ _ (Act.put _ (some (79 : Nat)) (.slice A14 n0 c14)) _
        simp only [Act.put, List.setIfInBounds_toArray, List.set_cons_zero, List.set_cons_succ]
        refine wpAnyH_ready (rs := [16]) (by kernel_rfl) (by simp) ?_
        refine AllReadyH.cons (o := ⟨some 81, .call { callee := .builtin .append, args := #[.tmp 79, .tmp 80], argTypes := #[22, 22] }, _, _, _, _⟩) rfl (fun K hK => ?_) AllReadyH.nil
        refine step_append_by (by kernel_rfl) (.tmp 79) (.tmp 80) 22 rfl w10.heap.size i0 Tryd.underlying22 hi hz0 hz1 hz2 _ n0 xs (by simp [Act.eval]) O14.out (fun _ => True) A2 n2 c2 ys (by simp [Act.eval]) ((HA2.out.through hHeld)) (by omega) hHeld.size (n0 + n2) rfl (xs ++ ys) rfl ?_; intro A16 c16 w16 h16 hc16 hm16 hb16; have HB16 := Lib.hid (hHeld.trans hb16); have O16 := Lib.hid h16; clear h16 hb16
        refine hK.out _ _ HB16.out (fun hHeld1 => ?_)
        clear hHeld hK K
        have hHeld := hHeld1
        clear hHeld1
        change wpAnyH _ _ _ _ _ _ _ (Act.put _ (some (81 : Nat)) (.slice A16 (n0 + n2) c16)) _
        simp only [Act.put, List.setIfInBounds_toArray, List.set_cons_zero, List.set_cons_succ]
        refine wpAnyH_ready (rs := [17]) (by kernel_rfl) (by simp) ?_
        refine AllReadyH.cons rfl (fun K hK => ?_) AllReadyH.nil
        go_simp
        refine (CS2.out _ A16 c16 hHeld ((By.of_own O16.out).weak (fun _ _ => trivial)) hc16 hm16).mono ?_
        rintro e w28 ⟨rfl, hb28⟩; have HB28 := Lib.hid (below_step hHeld hb28); clear hb28
        go_wp2_with fail
        refine hK.out _ _ HB28.out (fun hHeld1 => ?_)
        clear hHeld hK K
        have hHeld := hHeld1
        clear hHeld1
        refine wpAnyH_take (i := 18) (v := (.bool true)) rfl (by kernel_rfl) (by kernel_rfl) (by kernel_rfl) (fun _ _ _ h => h) (Or.inl ⟨by kernel_rfl, fun w hSw => ?_⟩) (by assumption) ?_
        · (try dsimp only at hSw); go_simp <;> (try rfl)
        change wpAnyH _ _ _ _ _ _ _ (Act.put _ (some (83 : Nat)) (.bool true)) _
        simp only [Act.put, List.setIfInBounds_toArray, List.set_cons_zero, List.set_cons_succ]
        refine wpAnyH_take (i := 19) (v := (.bool true)) rfl (by kernel_rfl) (by kernel_rfl) (by kernel_rfl) (fun _ _ _ h => h) (Or.inl ⟨by kernel_rfl, fun w hSw => ?_⟩) (by assumption) ?_
        · (try dsimp only at hSw); go_simp <;> (try rfl)
        change wpAnyH _ _ _ _ _ _ _ (Act.put _ (some (84 : Nat)) (.bool true)) _
        simp only [Act.put, List.setIfInBounds_toArray, List.set_cons_zero, List.set_cons_succ]
        refine wpAnyH_take (i := 20) (v := (.bool true)) rfl (by kernel_rfl) (by kernel_rfl) (by kernel_rfl) (fun _ _ _ h => h) (Or.inl ⟨by kernel_rfl, fun w hSw => ?_⟩) (by assumption) ?_
        · (try dsimp only at hSw); go_simp <;> (try rfl)
        change wpAnyH _ _ _ _ _ _ _ (Act.put _ (some (85 : Nat)) (.bool true)) _
        simp only [Act.put, List.setIfInBounds_toArray, List.set_cons_zero, List.set_cons_succ]
        refine wpAnyH_take (i := 21) (v := (.pointer (some ⟨g, 0, none⟩))) rfl (by kernel_rfl) (by kernel_rfl) (by kernel_rfl) (fun _ _ _ h => h) (Or.inl ⟨by kernel_rfl, fun w hSw => ?_⟩) (by assumption) ?_
        · (try dsimp only at hSw); go_simp <;> (try rfl)
        change wpAnyH _ _ _ _ _ _ _ (Act.put _ (some (86 : Nat)) (.pointer (some ⟨g, 0, none⟩))) _
        simp only [Act.put, List.setIfInBounds_toArray, List.set_cons_zero, List.set_cons_succ]
        refine wpAnyH_take (i := 23) (v := (.slice A0 n0 c0)) rfl (by kernel_rfl) (by kernel_rfl) (by kernel_rfl) (fun _ _ _ h => h) (Or.inl ⟨by kernel_rfl, fun w hSw => ?_⟩) (by assumption) ?_
        · (try dsimp only at hSw); go_simp <;> (try rfl)
        change wpAnyH _ _ _ _ _ _ _ (Act.put _ (some (88 : Nat)) (.slice A0 n0 c0)) _
        simp only [Act.put, List.setIfInBounds_toArray, List.set_cons_zero, List.set_cons_succ]
        refine wpAnyH_take (i := 24) (v := (.int .i64 n0)) rfl (by kernel_rfl) (by kernel_rfl) (by kernel_rfl) (fun _ _ _ h => h) (Or.inl ⟨by kernel_rfl, fun w hSw => ?_⟩) (by assumption) ?_
        · (try dsimp only at hSw); go_simp <;> (try rfl)
        change wpAnyH _ _ _ _ _ _ _ (Act.put _ (some (89 : Nat)) (.int .i64 n0)) _
        simp only [Act.put, List.setIfInBounds_toArray, List.set_cons_zero, List.set_cons_succ]
        refine wpAnyH_take (i := 25) (v := (.slice A2 n2 c2)) rfl (by kernel_rfl) (by kernel_rfl) (by kernel_rfl) (fun _ _ _ h => h) (Or.inl ⟨by kernel_rfl, fun w hSw => ?_⟩) (by assumption) ?_
        · (try dsimp only at hSw); go_simp <;> (try rfl)
        change wpAnyH _ _ _ _ _ _ _ (Act.put _ (some (90 : Nat)) (.slice A2 n2 c2)) _
        simp only [Act.put, List.setIfInBounds_toArray, List.set_cons_zero, List.set_cons_succ]
        refine wpAnyH_take (i := 26) (v := (.int .i64 n2)) rfl (by kernel_rfl) (by kernel_rfl) (by kernel_rfl) (fun _ _ _ h => h) (Or.inl ⟨by kernel_rfl, fun w hSw => ?_⟩) (by assumption) ?_
        · (try dsimp only at hSw); go_simp <;> (try rfl)
        change wpAnyH _ _ _ _ _ _ _ (Act.put _ (some (91 : Nat)) (.int .i64 n2)) _
        simp only [Act.put, List.setIfInBounds_toArray, List.set_cons_zero, List.set_cons_succ]
        refine wpAnyH_take (i := 27) (v := (.int .i64 ((n0 : Int) + n2))) rfl (by kernel_rfl) (by kernel_rfl) (by kernel_rfl) (fun _ _ _ h => h) (Or.inl ⟨by kernel_rfl, fun w hSw => ?_⟩) (by assumption) ?_
        · (try dsimp only at hSw); go_simp <;> (try rfl)
        change wpAnyH _ _ _ _ _ _ _ (Act.put _ (some (92 : Nat)) (.int .i64 ((n0 : Int) + n2))) _
        simp only [Act.put, List.setIfInBounds_toArray, List.set_cons_zero, List.set_cons_succ]
        refine wpAnyH_ready (rs := [22]) (by kernel_rfl) (by simp) ?_
        refine AllReadyH.cons rfl (fun K hK => ?_) AllReadyH.nil
        go_simp
        refine (CL.out _ hHeld).mono ?_
        rintro e w29 ⟨rfl, hb29⟩; have HB29 := Lib.hid (below_step hHeld hb29); clear hb29
        go_wp2_with fail
        refine hK.out _ _ HB29.out (fun hHeld1 => ?_)
        clear hHeld hK K
        have hHeld := hHeld1
        clear hHeld1
        refine wpAnyH_take (i := 28) (v := (.bool true)) rfl (by kernel_rfl) (by kernel_rfl) (by kernel_rfl) (fun _ _ _ h => h) (Or.inl ⟨by kernel_rfl, fun w hSw => ?_⟩) (by assumption) ?_
        · (try dsimp only at hSw); go_simp <;> (try rfl)
        change wpAnyH _ _ _ _ _ _ _ (Act.put _ (some (93 : Nat)) (.bool true)) _
        simp only [Act.put, List.setIfInBounds_toArray, List.set_cons_zero, List.set_cons_succ]
        refine wpAnyH_take (i := 29) (v := (.bool true)) rfl (by kernel_rfl) (by kernel_rfl) (by kernel_rfl) (fun _ _ _ h => h) (Or.inl ⟨by kernel_rfl, fun w hSw => ?_⟩) (by assumption) ?_
        · (try dsimp only at hSw); go_simp <;> (try rfl)
        change wpAnyH _ _ _ _ _ _ _ (Act.put _ (some (94 : Nat)) (.bool true)) _
        simp only [Act.put, List.setIfInBounds_toArray, List.set_cons_zero, List.set_cons_succ]
        refine wpAnyH_take (i := 30) (v := (.bool true)) rfl (by kernel_rfl) (by kernel_rfl) (by kernel_rfl) (fun _ _ _ h => h) (Or.inl ⟨by kernel_rfl, fun w hSw => ?_⟩) (by assumption) ?_
        · (try dsimp only at hSw); go_simp <;> (try rfl)
        change wpAnyH _ _ _ _ _ _ _ (Act.put _ (some (95 : Nat)) (.bool true)) _
        simp only [Act.put, List.setIfInBounds_toArray, List.set_cons_zero, List.set_cons_succ]
        refine wpAnyH_take (i := 31) (v := (.pointer none)) rfl (by kernel_rfl) (by kernel_rfl) (by kernel_rfl) (fun _ _ _ h => h) (Or.inl ⟨by kernel_rfl, fun w hSw => ?_⟩) (by assumption) ?_
        · (try dsimp only at hSw); go_simp <;> (try rfl)
        change wpAnyH _ _ _ _ _ _ _ (Act.put _ (some (96 : Nat)) (.pointer none)) _
        simp only [Act.put, List.setIfInBounds_toArray, List.set_cons_zero, List.set_cons_succ]
        refine wpAnyH_ready (rs := [32]) (by kernel_rfl) (by simp) ?_
        refine AllReadyH.cons rfl (fun K hK => ?_) AllReadyH.nil
        go_simp
        refine (CLN.out _ hHeld).mono ?_
        rintro e w30 ⟨rfl, hb30⟩; have HB30 := Lib.hid (below_step hHeld hb30); clear hb30
        go_wp2_with fail
        refine hK.out _ _ HB30.out (fun hHeld1 => ?_)
        clear hHeld hK K
        have hHeld := hHeld1
        clear hHeld1
        refine wpAnyH_take (i := 33) (v := (.bool true)) rfl (by kernel_rfl) (by kernel_rfl) (by kernel_rfl) (fun _ _ _ h => h) (Or.inl ⟨by kernel_rfl, fun w hSw => ?_⟩) (by assumption) ?_
        · (try dsimp only at hSw); go_simp <;> (try rfl)
        change wpAnyH _ _ _ _ _ _ _ (Act.put _ (some (98 : Nat)) (.bool true)) _
        simp only [Act.put, List.setIfInBounds_toArray, List.set_cons_zero, List.set_cons_succ]
        refine wpAnyH_take (i := 34) (v := (.bool true)) rfl (by kernel_rfl) (by kernel_rfl) (by kernel_rfl) (fun _ _ _ h => h) (Or.inl ⟨by kernel_rfl, fun w hSw => ?_⟩) (by assumption) ?_
        · (try dsimp only at hSw); go_simp <;> (try rfl)
        change wpAnyH _ _ _ _ _ _ _ (Act.put _ (some (99 : Nat)) (.bool true)) _
        simp only [Act.put, List.setIfInBounds_toArray, List.set_cons_zero, List.set_cons_succ]
        refine wpAnyH_take (i := 35) (v := (.bool true)) rfl (by kernel_rfl) (by kernel_rfl) (by kernel_rfl) (fun _ _ _ h => h) (Or.inl ⟨by kernel_rfl, fun w hSw => ?_⟩) (by assumption) ?_
        · (try dsimp only at hSw); go_simp <;> (try rfl)
        change wpAnyH _ _ _ _ _ _ _ (Act.put _ (some (100 : Nat)) (.bool true)) _
        simp only [Act.put, List.setIfInBounds_toArray, List.set_cons_zero, List.set_cons_succ]
        refine wpAnyH_take (i := 36) (v := (.pointer none)) rfl (by kernel_rfl) (by kernel_rfl) (by kernel_rfl) (fun _ _ _ h => h) (Or.inl ⟨by kernel_rfl, fun w hSw => ?_⟩) (by assumption) ?_
        · (try dsimp only at hSw); go_simp <;> (try rfl)
        change wpAnyH _ _ _ _ _ _ _ (Act.put _ (some (101 : Nat)) (.pointer none)) _
        simp only [Act.put, List.setIfInBounds_toArray, List.set_cons_zero, List.set_cons_succ]
        refine wpAnyH_take (i := 38) (v := (.agg (vs zero32).toArray)) rfl (by kernel_rfl) (by kernel_rfl) (by kernel_rfl) (fun _ _ _ h => h) (Or.inl ⟨by kernel_rfl, fun w hSw => ?_⟩) (by assumption) ?_
        · (try dsimp only at hSw); go_simp <;> (try rfl)
        change wpAnyH _ _ _ _ _ _ _ (Act.put _ (some (103 : Nat)) (.agg (vs zero32).toArray)) _
        simp only [Act.put, List.setIfInBounds_toArray, List.set_cons_zero, List.set_cons_succ]
        refine wpAnyH_ready (rs := [37]) (by kernel_rfl) (by simp) ?_
        refine AllReadyH.cons rfl (fun K hK => ?_) AllReadyH.nil
        go_simp
        refine (CSN.out _ hHeld).mono ?_
        rintro e w31 ⟨rfl, hb31⟩; have HB31 := Lib.hid (below_step hHeld hb31); clear hb31
        go_wp2_with fail
        refine hK.out _ _ HB31.out (fun hHeld1 => ?_)
        clear hHeld hK K
        have hHeld := hHeld1
        clear hHeld1
        refine wpAnyH_take (i := 39) (v := (.bool true)) rfl (by kernel_rfl) (by kernel_rfl) (by kernel_rfl) (fun _ _ _ h => h) (Or.inl ⟨by kernel_rfl, fun w hSw => ?_⟩) (by assumption) ?_
        · (try dsimp only at hSw); go_simp <;> (try rfl)
        change wpAnyH _ _ _ _ _ _ _ (Act.put _ (some (104 : Nat)) (.bool true)) _
        simp only [Act.put, List.setIfInBounds_toArray, List.set_cons_zero, List.set_cons_succ]
        refine wpAnyH_take (i := 40) (v := (.bool true)) rfl (by kernel_rfl) (by kernel_rfl) (by kernel_rfl) (fun _ _ _ h => h) (Or.inl ⟨by kernel_rfl, fun w hSw => ?_⟩) (by assumption) ?_
        · (try dsimp only at hSw); go_simp <;> (try rfl)
        change wpAnyH _ _ _ _ _ _ _ (Act.put _ (some (105 : Nat)) (.bool true)) _
        simp only [Act.put, List.setIfInBounds_toArray, List.set_cons_zero, List.set_cons_succ]
        refine wpAnyH_take (i := 41) (v := (.bool true)) rfl (by kernel_rfl) (by kernel_rfl) (by kernel_rfl) (fun _ _ _ h => h) (Or.inl ⟨by kernel_rfl, fun w hSw => ?_⟩) (by assumption) ?_
        · (try dsimp only at hSw); go_simp <;> (try rfl)
        change wpAnyH _ _ _ _ _ _ _ (Act.put _ (some (6 : Nat)) (.bool true)) _
        simp only [Act.put, List.setIfInBounds_toArray, List.set_cons_zero, List.set_cons_succ]
        refine wpAnyH_done (by kernel_rfl) ?_ _
        go_wp2_with fail
        go_ret
        exact ⟨by simp, HX10.out.trans (hHeld.mono HX10.out.size)⟩

end Go.Proofs.YtakhkimpnhkkkaaDoor
