/-
  The program's putWord, put.
-/
import Derived.Test.YtnpobhgecfjfgaaDoorPA
import Derived.Test.YtnpobhgecfjfgaaDoorKR
namespace Go.Proofs.YtnpobhgecfjfgaaDoor
open Go.RowKit

theorem Tryd.info_b : (Tryd.prog.info? 5).map (fun i => (i.zero, i.size, i.bytes)) = some (some (.int .u8 0), 1, 1) := by kernel_rfl
theorem Fm.In.belowB {w w' : World} {f : Fm} {A : Option Addr} {n B : Nat} (h : f.In w (· < B) A n) (hb : Below B w w') : f.In w' (· < B) A n := Fm.In.keep (fun g hg => hb.block g hg) f A n h

set_option maxHeartbeats 4000000 in
set_option maxRecDepth 100000 in
theorem putword_any (B : Nat) (a n : Nat) (h1 : 1 ≤ a) (h2 : a ≤ n) (hn : n ≤ 99) (sv : Value) (l : List UInt8) (hl : l.length ≤ 10000) (w : World) (h : Bs w B sv l) (hB : B ≤ w.heap.size) :
    Calls Tryd.prog 39 #[sv, .int .i64 (a : Int), .int .i64 (n : Int)] w fun e w' => ∃ v', e = .returned v' ∧ Bs w' B v' (l ++ headP (a : Int) n) ∧ Fr B w w' := by
  have H := Lib.hid h
  have HX := Lib.hid (Fr.refl B w)
  obtain ⟨i0, hi, hz0, hz1, hz2⟩ := info_parts Tryd.info_b
  have hc := append_any B a (by omega) sv l (by omega) w h hB
  have HC := Lib.hid hc
  have hdl := digs_len (n := a) (by omega)
  clear hc h
  go_enter Tryd.func39, Tryd.ntmps39
  by_cases hjn : a = n
  · have hh : headP (a : Int) n = [97, 108, 108] := by unfold headP; rw [if_pos (by omega)]
    rw [hh]
    have hjb : ((a : Int) == (n : Int)) = true := by simp; omega
    subst hjn
    go_wp2_with (first
      | (at_builtin; refine Lib.wpList_append_own_string _ rfl (.tmp 11) _ 36 9 rfl B 5 i0 Tryd.underlying36 Tryd.underlying9 hi hz0 hz1 hz2 _ _ (vb (l)) rfl H.out (ba [97, 108, 108]) rfl (by unfold maxLen; rw [ba_size]; simp; omega) (by rw [ba_size]; simp; omega) (by exact hB) ?_; intro v1 w1 ho hg _; have H1 : Hid (Bs w1 B v1 ((l) ++ [97, 108, 108])) := Lib.hid (by unfold Bs; rw [List.length_append, vb_append]; rw [ba_size, strCells_ba] at ho; exact ho); have HX1 := Lib.hid (HX.out.grown H.out hg (by exact hB)); clear ho hg))
    go_ret
    exact ⟨v1, rfl, H1.out, HX1.out⟩
  · have hjb : ((a : Int) == (n : Int)) = false := by simp; omega
    by_cases hj1 : a = 1
    · have hh : headP (a : Int) n = [97, 110, 121] := by unfold headP; rw [if_neg (by omega), if_pos (by omega)]
      rw [hh]
      subst hj1
      have hjb1 : ((1 : Int) == (n : Int)) = false := hjb
      have hjb2 : ¬ (1 : Int) = (n : Int) := by omega
      go_wp2_with (first
        | (at_builtin; refine Lib.wpList_append_own_string _ rfl (.tmp 15) _ 36 9 rfl B 5 i0 Tryd.underlying36 Tryd.underlying9 hi hz0 hz1 hz2 _ _ (vb (l)) rfl H.out (ba [97, 110, 121]) rfl (by unfold maxLen; rw [ba_size]; simp; omega) (by rw [ba_size]; simp; omega) (by exact hB) ?_; intro v1 w1 ho hg _; have H1 : Hid (Bs w1 B v1 ((l) ++ [97, 110, 121])) := Lib.hid (by unfold Bs; rw [List.length_append, vb_append]; rw [ba_size, strCells_ba] at ho; exact ho); have HX1 := Lib.hid (HX.out.grown H.out hg (by exact hB)); clear ho hg))
      go_ret
      exact ⟨v1, rfl, H1.out, HX1.out⟩
    · have hh : headP (a : Int) n = digs a ++ [111, 102] := by unfold headP; rw [if_neg (by omega), if_neg (by omega), Int.toNat_natCast]
      rw [hh, ← List.append_assoc]
      have hj1b : ((a : Int) == 1) = false := by simp; omega
      go_wp2_with (first
        | (go_at_call 38; (with_reducible refine (HC.out).mono ?_); rintro e w2 ⟨v2, rfl, h2, hb2⟩; have H2 := Lib.hid h2; have HX2 := Lib.hid hb2; clear h2 hb2)
        | (at_builtin; refine Lib.wpList_append_own_string _ rfl (.tmp 19) _ 36 9 rfl B 5 i0 Tryd.underlying36 Tryd.underlying9 hi hz0 hz1 hz2 _ _ (vb (l ++ digs a)) rfl H2.out (ba [111, 102]) rfl (by unfold maxLen; rw [ba_size]; simp; omega) (by rw [ba_size]; simp; omega) (by have := HX2.out.below.size; omega) ?_; intro v1 w1 ho hg _; have H1 : Hid (Bs w1 B v1 ((l ++ digs a) ++ [111, 102])) := Lib.hid (by unfold Bs; rw [List.length_append, vb_append]; rw [ba_size, strCells_ba] at ho; exact ho); have HX1 := Lib.hid (HX2.out.grown H2.out hg (by have := HX2.out.below.size; omega)); clear ho hg))
      go_ret
      exact ⟨v1, rfl, H1.out, HX1.out⟩

set_option maxHeartbeats 8000000 in
set_option maxRecDepth 100000 in
theorem put_any (B : Nat) (f : Fm) : ∀ (A : Option Addr) (n c : Nat) (sv : Value) (l : List UInt8) (w : World), f.rng 7 = true → f.size ≤ 99 → l.length + 10 * f.size ≤ 2000 → f.In w (· < B) A n → Bs w B sv l → B ≤ w.heap.size →
    Calls Tryd.prog 19 #[sv, f.val A n c] w fun e w' => ∃ v', e = .returned v' ∧ Bs w' B v' (l ++ printP f) ∧ Fr B w w' := by
  induction f using Fm.ind with
  | h o a ks ih =>
    intro A n c sv l w hr hz hl h hb hB
    obtain ⟨i0, hi, hz0, hz1, hz2⟩ := info_parts Tryd.info_b
    unfold Fm.val
    simp only [Fm.org, Fm.nd]
    have HB := Lib.hid hb
    have HX := Lib.hid ((Fr.refl B w).alloc hB (.cells #[.int .i64 o, .int .i64 a, .slice A n c] 25))
    have HBx : Hid (Bs (w.alloc (.cells #[.int .i64 o, .int .i64 a, .slice A n c] 25)) B sv l) := Lib.hid (Bs.alloc hb _)
    cases ks with
    | nil =>
      obtain rfl : 0 = n := h.len
      have ho : 0 ≤ o ∧ o < 7 := by simp [Fm.rng] at hr; omega
      have hpr : printP (.mk o a []) = digs o.toNat := rfl
      rw [hpr]
      obtain ⟨j, rfl⟩ : ∃ j : Nat, o = (j : Int) := ⟨o.toNat, by omega⟩
      rw [Int.toNat_natCast]
      have hc := append_any B j (by omega) sv l (by omega) _ HBx.out (by simp; omega)
      have HC := Lib.hid hc
      clear hc hpr hr h ih hb
      go_enter Tryd.func19, Tryd.ntmps19
      go_wp2_with (go_at_call 38; (with_reducible refine (HC.out).mono ?_); rintro e w2 ⟨v2, rfl, h2, hb2⟩; have H2 := Lib.hid h2; have HX2 := Lib.hid (HX.out.trans hb2); clear h2 hb2)
      go_ret
      exact ⟨v2, rfl, H2.out, HX2.out⟩
    | cons k0 ks0 =>
      have hpr : printP (.mk o a (k0 :: ks0)) = (headP a (ks0.length + 1) ++ [40]) ++ restP 0 (k0 :: ks0) := by
        rw [List.append_assoc]
        rfl
      have hrs := hr
      simp only [Fm.rng, Bool.and_eq_true, decide_eq_true_eq] at hrs
      obtain ⟨hrk, ⟨h1, h2⟩, rfl⟩ := hrs
      have hn : ks0.length + 1 = n := h.len
      rw [hn] at hpr h2
      have hsz2 : (Fm.mk 0 a (k0 :: ks0)).size = 1 + Fm.sizes (k0 :: ks0) := rfl
      have hzs : Fm.sizes (k0 :: ks0) ≤ 98 := by omega
      have hlen := Fm.length_sizes (k0 :: ks0)
      simp only [List.length_cons] at hlen
      have hpl := printP_len _ hr (by omega)
      have hnk : (k0 :: ks0).length = n := hn
      have hn98 : n ≤ 98 := by omega
      rw [hsz2] at hl
      have hpl3 : (l ++ printP (.mk 0 a (k0 :: ks0))).length ≤ 2000 := by rw [List.length_append]; omega
      have hle : l.length ≤ 2000 := by omega
      obtain ⟨ks, hks⟩ : ∃ ks, ks = k0 :: ks0 := ⟨_, rfl⟩
      rw [← hks] at hpr hrk hzs hnk h ih hpl3 hl ⊢
      obtain ⟨P, hP⟩ : ∃ P, l ++ printP (.mk 0 a ks) = P := ⟨_, rfl⟩
      rw [hpr, ← List.append_assoc] at hP
      rw [hpr, ← List.append_assoc, hP]
      rw [hpr, ← List.append_assoc, hP] at hpl3
      have HF := Lib.hid h
      have HI := Lib.hid ih
      obtain ⟨j, rfl⟩ : ∃ j : Nat, a = (j : Int) := ⟨a.toNat, by omega⟩
      have hhl := headP_len h1 h2 (by omega)
      have hc := putword_any B j n (by omega) (by omega) (by omega) sv l (by omega) _ HBx.out (by simp; omega)
      have HC0 := Lib.hid hc
      obtain ⟨hd, hhd⟩ : ∃ hd, headP (j : Int) n = hd := ⟨_, rfl⟩
      rw [hhd] at HC0 hP hhl
      have HPr := Lib.hid hP
      clear hc hr hz h ih hpr hks hn hP hlen hpl hb hsz2 hhd
      have hB0 : Blk (w.alloc (.cells #[.int .i64 0, .int .i64 (j : Int), .slice A n c] 25)) w.heap.size 25 [.int .i64 0, .int .i64 (j : Int), .slice A n c] := Blk.fresh rfl rfl
      have HB0 := Lib.hid hB0
      clear hB0
      go_enter Tryd.func19, Tryd.ntmps19
      go_wp2_with (first
        | (go_at_call 39; (with_reducible refine (HC0.out).mono ?_); rintro e w2 ⟨v2, rfl, h2, hb2⟩; have H2 := Lib.hid h2; have HX2 := Lib.hid (HX.out.trans hb2); have HBw2 := Lib.hid (hb2.blk HB0.out (by decide)); clear h2 hb2)
        | (at_builtin; (refine wpList_append_own _ rfl (.tmp 21) (.tmp 22) 36 rfl B 5 i0 (.int .u8 0) 1 1 Tryd.underlying36 hi hz0 hz1 hz2 rfl (by decide) _ _ (vb (l ++ hd)) rfl (Bs.alloc H2.out (.cells #[.int .u8 40] 5)) ⟨w2.heap.size, 0, none⟩ 1 1 [Value.int .u8 40] rfl rfl (row_cell' (w := w2.alloc (.cells #[.int .u8 40] 5)) (Blk.fresh (by first | rfl | simp) rfl)) (by intro u hu; simp at hu; subst hu; rfl) (by unfold maxLen; first | omega | (simp; omega)) (by first | omega | (simp; omega)) (by have := HX2.out.below.size; simp; omega) ?_); intro v3 w3 ho hg _; (have H3 : Hid (Bs w3 B v3 ((l ++ hd) ++ [40])) := Lib.hid (by unfold Bs; rw [List.length_append, vb_append]; exact ho)); (have hf3 := ((Fr.refl B w2).alloc (by have := HX2.out.below.size; simp; omega) (.cells #[.int .u8 40] 5)).grown (Bs.alloc H2.out (.cells #[.int .u8 40] 5)) hg (by have := HX2.out.below.size; simp; omega)); (have HX3 := Lib.hid (HX2.out.trans hf3)); have HBw3 := Lib.hid (hf3.blk HBw2.out (by decide)); have d2 := HBw3.out.cellAt (i := 2) rfl; clear ho hg hf3))
      go_loopw [0, 27] (fun bv iv wr => ∃ (i : Nat) (u : List UInt8) (v : Value), i ≤ ks.length ∧ iv = .int .i64 (i : Int) ∧ v = bv ∧ Bs wr B v u ∧ Fr B w wr ∧ P = u ++ restP i (ks.drop i) ∧ u.length + 10 * Fm.sizes (ks.drop i) ≤ 1995) (fun _ iv _ => n - (intOf iv).toNat)
      case atStart => exact ⟨0, l ++ hd ++ [40], _, Nat.zero_le _, rfl, rfl, H3.out, HX3.out, by rw [← HPr.out, List.drop_zero, ← List.append_assoc], by rw [List.drop_zero]; simp; omega⟩
      case round =>
        obtain ⟨i, u, v, hi2, rfl, rfl, hbs, hx, hs, hlen⟩ := hrel
        have HXr := Lib.hid hx
        have HU := Lib.hid hbs
        have hul : u.length ≤ 2000 := by have := congrArg List.length hs; simp at this; omega
        have hwB : B ≤ wr.heap.size := by have := hx.below.size; omega
        clear hx hbs
        by_cases hlt : i < n
        · obtain ⟨k, g, b, A', n', c', hk1, hk2, hk3, rfl, _, hr, hk⟩ := (HF.out.belowB HXr.out.below).kid hlt
          have HR := Lib.hid hr
          have HK := Lib.hid hk
          rw [hk3] at hs hlen
          have hsk : Fm.sizes (k :: ks.drop (i + 1)) = k.size + Fm.sizes (ks.drop (i + 1)) := rfl
          rw [hsk] at hlen
          have hpk := printP_len k (Fm.rngs_mem hrk hk2) (by have := Fm.sizes_mem hk2; omega)
          have hks := Fm.sizes_mem hk2
          have HS := Lib.hid hs
          obtain ⟨p, hp⟩ : ∃ p, printP k = p := ⟨_, rfl⟩
          have HPk := Lib.hid hp
          rw [hp] at hpk
          have hcall : ∀ (W : World) (x : Value) (y : List UInt8), y.length + 10 * k.size ≤ 2000 → k.In W (· < B) A' n' → Bs W B x y → B ≤ W.heap.size → Calls Tryd.prog 19 #[x, .agg #[.int .i64 k.org, .int .i64 k.nd, .slice A' n' c']] W fun e w' => ∃ v', e = .returned v' ∧ Bs w' B v' (y ++ p) ∧ Fr B W w' := fun W x y h1 h2 h3 h4 => by rw [← hp]; exact HI.out k hk2 A' n' c' x y W (Fm.rngs_mem hrk hk2) (by omega) h1 h2 h3 h4
          have HC := Lib.hid hcall
          clear hcall hs hk hk1 hk3 hr hp
          cases i with
          | zero =>
            go_wp2_with (first
              | (refine wpList_load_mid rfl 25 (.tmp 30) rfl g (b + 0 * 3) (by simp [Act.eval]) [.int .i64 k.org, .int .i64 k.nd, .slice A' n' c'] _ HR.out Tryd.underlying25 rfl (by kernel_rfl) ?_)
              | (go_at_call 19; (with_reducible refine (HC.out _ _ _ ?_ (HK.out.belowB ((Below.refl B wr).alloc hwB (.cells #[.int .i64 k.org, .int .i64 k.nd, .slice A' n' c'] 25))) (Bs.alloc HU.out (.cells #[.int .i64 k.org, .int .i64 k.nd, .slice A' n' c'] 25)) (by simp; omega)).mono ?_); (omega); (rintro e w5 ⟨v5, rfl, h5, hb5⟩); (have H5 : Hid (Bs w5 B v5 (u ++ p)) := Lib.hid h5); (have HX5 := Lib.hid ((HXr.out.alloc hwB (.cells #[.int .i64 k.org, .int .i64 k.nd, .slice A' n' c'] 25)).trans hb5)); (clear h5 hb5)))
            go_roundw
            case rel => exact ⟨1, u ++ p, _, by omega, by go_num, rfl, H5.out, HX5.out, by rw [HS.out, restP_0, HPk.out, List.append_assoc], by rw [List.length_append]; show _ + 10 * Fm.sizes (ks.drop (0 + 1)) ≤ 1995; omega⟩
            case measure => simp [intOf] <;> omega
          | succ i =>
            go_wp2_with (first
              | (refine wpList_load_mid rfl 25 (.tmp 30) rfl g (b + (i + 1) * 3) (by simp [Act.eval]) [.int .i64 k.org, .int .i64 k.nd, .slice A' n' c'] _ HR.out Tryd.underlying25 rfl (by kernel_rfl) ?_)
              | (at_builtin; (refine wpList_append_own _ rfl (.tmp 34) (.tmp 35) 36 rfl B 5 i0 (.int .u8 0) 1 1 Tryd.underlying36 hi hz0 hz1 hz2 rfl (by decide) _ _ (vb (u)) rfl (Bs.alloc (Lib.hid (Bs.alloc HU.out (.cells #[.int .i64 k.org, .int .i64 k.nd, .slice A' n' c'] 25))).out (.cells #[.int .u8 44] 5)) ⟨wr.heap.size + 1, 0, none⟩ 1 1 [Value.int .u8 44] rfl rfl (row_cell' (w := (wr.alloc (.cells #[.int .i64 k.org, .int .i64 k.nd, .slice A' n' c'] 25)).alloc (.cells #[.int .u8 44] 5)) (Blk.fresh (by first | rfl | simp) rfl)) (by intro u hu; simp at hu; subst hu; rfl) (by unfold maxLen; first | omega | (simp; omega)) (by first | omega | (simp; omega)) (by first | omega | (simp; omega)) ?_); intro v4 w4 ho hg _; (have H4 : Hid (Bs w4 B v4 ((u) ++ [44])) := Lib.hid (by unfold Bs; rw [List.length_append, vb_append]; exact ho)); (have hf4 := ((Fr.refl B (wr.alloc (.cells #[.int .i64 k.org, .int .i64 k.nd, .slice A' n' c'] 25))).alloc (by first | omega | (simp; omega)) (.cells #[.int .u8 44] 5)).grown (Bs.alloc (Lib.hid (Bs.alloc HU.out (.cells #[.int .i64 k.org, .int .i64 k.nd, .slice A' n' c'] 25))).out (.cells #[.int .u8 44] 5)) hg (by first | omega | (simp; omega))); (have HX4 := Lib.hid ((Lib.hid (HXr.out.alloc hwB (.cells #[.int .i64 k.org, .int .i64 k.nd, .slice A' n' c'] 25))).out.trans hf4)); have HX4b := Lib.hid (((Below.refl B wr).alloc hwB (.cells #[.int .i64 k.org, .int .i64 k.nd, .slice A' n' c'] 25)).trans hf4.below); have HBk4 := Lib.hid (hf4.blk (Blk.fresh (w := wr) (t := 25) (cs := [.int .i64 k.org, .int .i64 k.nd, .slice A' n' c']) rfl rfl) (by decide)); clear ho hg hf4)
              | (refine wpList_load_blk rfl 25 (.tmp 6) rfl wr.heap.size rfl 25 [.int .i64 k.org, .int .i64 k.nd, .slice A' n' c'] _ HBk4.out Tryd.underlying25 rfl (by kernel_rfl) ?_)
              | (go_at_call 19; (with_reducible refine (HC.out _ _ _ ?_ (HK.out.belowB HX4b.out) H4.out ?_).mono ?_); (simp; omega); (have := HX4b.out.size; omega); rintro e w5 ⟨v5, rfl, h5, hb5⟩; have H5 : Hid (Bs w5 B v5 (u ++ [44] ++ p)) := Lib.hid h5; have HX5 := Lib.hid (HX4.out.trans hb5); clear h5 hb5))
            go_roundw
            case rel => exact ⟨i + 1 + 1, u ++ [44] ++ p, _, by omega, by go_num, rfl, H5.out, HX5.out, by rw [HS.out, restP_s (by omega), HPk.out]; simp, by simp; omega⟩
            case measure => simp [intOf] <;> omega
        · obtain rfl : i = n := by omega
          rw [List.drop_of_length_le (by omega), restP_e] at hs
          have HS := Lib.hid hs
          clear hs
          go_wp2_with (first
            | (at_builtin; (refine wpList_append_own _ rfl (.tmp 41) (.tmp 42) 36 rfl B 5 i0 (.int .u8 0) 1 1 Tryd.underlying36 hi hz0 hz1 hz2 rfl (by decide) _ _ (vb (u)) rfl (Bs.alloc HU.out (.cells #[.int .u8 41] 5)) ⟨wr.heap.size, 0, none⟩ 1 1 [Value.int .u8 41] rfl rfl (row_cell' (w := wr.alloc (.cells #[.int .u8 41] 5)) (Blk.fresh (by first | rfl | simp) rfl)) (by intro u hu; simp at hu; subst hu; rfl) (by unfold maxLen; first | omega | (simp; omega)) (by first | omega | (simp; omega)) (by first | omega | (simp; omega)) ?_); intro v6 w6 ho hg _; (have H6 : Hid (Bs w6 B v6 ((u) ++ [41])) := Lib.hid (by unfold Bs; rw [List.length_append, vb_append]; exact ho)); (have hf6 := ((Fr.refl B wr).alloc (by first | omega | (simp; omega)) (.cells #[.int .u8 41] 5)).grown (Bs.alloc HU.out (.cells #[.int .u8 41] 5)) hg (by first | omega | (simp; omega))); (have HX6 := Lib.hid (HXr.out.trans hf6)); clear ho hg hf6))
          go_ret
          exact ⟨v6, rfl, by rw [HS.out]; exact H6.out, HX6.out⟩

end Go.Proofs.YtnpobhgecfjfgaaDoor
