/-
  The law ContractKeeps.
-/
import Derived.Test.YtfflkodgojiklaaGreatDoorCoFo
namespace Go.Proofs.YtfflkodgojiklaaGreatDoor
open Go.RowKit

theorem fix_fe : fewE fe1 = true := by decide

set_option maxHeartbeats 8000000 in
set_option maxRecDepth 100000 in
theorem keeps_any (es : List Ey) (E : Option Addr) (k kc : Nat) (w : World) (hE : EysIn w E k es) (hk : k ≤ maxLen) (hLe : Led w) (hEv : EV w) :
    Calls Tryz.prog 4 #[.slice E k kc] w fun e w' => e = .returned (.bool true) ∧ Below w.heap.size w w' := by
  have hb0 := Tryz.build_lg
  have hfx : ∀ W, Below w.heap.size w W → Calls Tryz.prog 6 #[] W fun e w' => e = .returned (.bool true) ∧ Below W.heap.size W w' := fun W hW => fixed_any W (hLe.through hW) (hEv.through hW)
  have hfw : ∀ W, Below w.heap.size w W → Calls Tryz.prog 7 #[.agg #[.int .i64 0, .int .i64 0, .slice none 0 0, .slice none 0 0], .slice E k kc] W fun e w' => e = .returned (.bool (fewC Lg.no es)) ∧ Below W.heap.size W w' := fun W hW => few_any Lg.no es none 0 0 none 0 0 E k kc W (LgIn.none_ W) (hE.through hW) (Nat.zero_le _) hk
  have HFx := Lib.hid hfx
  cases hq : fewC Lg.no es with
  | false =>
    rw [hq] at hfw
    have HFw := Lib.hid hfw
    clear hfx hfw hE hk hLe hEv hq
    go_enter Tryz.func4, Tryz.ntmps4
    go_wp2_with (first
      | (go_at_call 6; (with_reducible refine (HFx.out _ (Below.refl _ _)).mono ?_); rintro e w1 ⟨rfl, hb⟩; have X1 : Hid (Below w.heap.size w w1) := Lib.hid hb; clear hb)
      | (go_at_call 7; (with_reducible refine (HFw.out _ X1.out).mono ?_); rintro e w2 ⟨rfl, hb⟩; have X2 := Lib.hid (below_step X1.out hb); clear hb))
    go_ret
    exact ⟨(by first | trivial | exact ret_b rfl), X2.out⟩
  | true =>
    rw [hq] at hfw
    have HFw := Lib.hid hfw
    have hall : es.all fewE = true := by
      simp only [fewC, Bool.and_eq_true] at hq
      exact hq.2.1
    have h40 : k ≤ 40 := by
      have hl := hE.len
      simp [fewC] at hq
      omega
    have hinv : Inv (foldL Lg.no es) := inv_fold inv_none
    have hfo : ∀ W, Below w.heap.size w W → Calls Tryz.prog 13 #[.agg #[.int .i64 0, .int .i64 0, .slice none 0 0, .slice none 0 0], .slice E k kc, .int .i64 4] W fun e w' => ∃ A n c B m d R rn rc, e = .returned (.tuple #[.agg #[.int .i64 1, .int .i64 (foldL Lg.no es).tt, .slice A n c, .slice B m d], .slice R rn rc]) ∧ LgIn w' A n B m (foldL Lg.no es) ∧ n ≤ c ∧ m ≤ d ∧ Below W.heap.size W w' := fun W hW => fold_any es E k kc W (hE.through hW) hall h40 (hLe.through hW) (hEv.through hW)
    obtain ⟨q, hqq⟩ : ∃ q, foldL Lg.no es = q := ⟨_, rfl⟩
    rw [hqq] at hfo hinv
    have hin := (lsOk_iff.1 hinv.ls).1
    have hlt : ∀ x ∈ q.ls, LtIn x := fun x hx => (ltOk_iff.1 (hin x hx)).2
    have hnm : ∀ x ∈ q.ls, x.nm.length ≤ 1000000 := fun x hx => by have := isNm_len (ltOk_iff.1 (hin x hx)).1; omega
    have h16 := hinv.ln
    have h4 := hinv.os4
    have hri : ∀ (W : World) (A5 : Option Addr) (n5 c5 : Nat) (B5 : Option Addr) (m5 d5 : Nat), LgIn W A5 n5 B5 m5 q → Calls Tryz.prog 14 #[.agg #[.int .i64 1, .int .i64 q.tt, .slice A5 n5 c5, .slice B5 m5 d5]] W fun e w' => e = .returned (.bool true) ∧ Below W.heap.size W w' := fun W A5 n5 c5 B5 m5 d5 hI => by
      have hlen := hI.len
      rw [← hinv.right]
      exact rright_any ⟨1, q.tt, q.ls, q.os⟩ A5 n5 c5 B5 m5 d5 W hI (by omega) (by omega) hnm
    have HFo := Lib.hid hfo
    have HRi := Lib.hid hri
    have HLt := Lib.hid hlt
    have HTt := Lib.hid hinv.tt
    have HPr := Lib.hid (paid_rng hlt)
    have H16 := Lib.hid h16
    have HIX := Lib.hid Tryz.ix_lt
    clear hfx hfw hE hk hLe hEv hq hall h40 hinv hfo hqq hin hlt hnm h16 h4 hri
    go_enter Tryz.func4, Tryz.ntmps4
    go_wp2_with (first
      | (go_at_call 6; (with_reducible refine (HFx.out _ (Below.refl _ _)).mono ?_); rintro e w1 ⟨rfl, hb⟩; have X1 : Hid (Below w.heap.size w w1) := Lib.hid hb; clear hb)
      | (go_at_call 7; (with_reducible refine (HFw.out _ X1.out).mono ?_); rintro e w2 ⟨rfl, hb⟩; have X2 := Lib.hid (below_step X1.out hb); clear hb)
      | (go_at_call 13; (with_reducible refine (HFo.out _ X2.out).mono ?_); rintro e w3 ⟨A5, n5, c5, B5, m5, d5, R, rn, rc, rfl, hi, hc, hd, hb⟩; have X3 : Hid (Below w.heap.size w (w3.alloc (.cells #[.int .i64 1, .int .i64 q.tt, .slice A5 n5 c5, .slice B5 m5 d5] 25))) := Lib.hid ((below_step X2.out hb).alloc (Nat.le_trans X2.out.size hb.size) _); have L3 : Hid (Blk (w3.alloc (.cells #[.int .i64 1, .int .i64 q.tt, .slice A5 n5 c5, .slice B5 m5 d5] 25)) w3.heap.size 25 [.int .i64 1, .int .i64 q.tt, .slice A5 n5 c5, .slice B5 m5 d5]) := Lib.hid (Blk.fresh rfl rfl); have I3 := Lib.hid (hi.alloc (.cells #[.int .i64 1, .int .i64 q.tt, .slice A5 n5 c5, .slice B5 m5 d5] 25)); have l2 := L3.out.cellAt (i := 2) rfl; clear hi hc hd hb))
    have HLn := Lib.hid I3.out.len.1
    go_loopw [5, 23] (fun pv iv wr => ∃ (i : Nat) (p : Int), i ≤ n5 ∧ iv = .int .i64 i ∧ pv = .int .i64 p ∧ 0 ≤ p ∧ p + paidS (q.ls.drop i) = paidS q.ls ∧ Below w.heap.size w wr ∧ Blk wr w3.heap.size 25 [.int .i64 1, .int .i64 q.tt, .slice A5 n5 c5, .slice B5 m5 d5] ∧ LgIn wr A5 n5 B5 m5 q) (fun _ iv _ => n5 - (intOf iv).toNat)
    case atStart => exact ⟨0, 0, Nat.zero_le _, rfl, rfl, by omega, by simp, X3.out, L3.out, I3.out⟩
    case round =>
      obtain ⟨i, p, hi, rfl, rfl, hp0, hps, hx, hl, hin⟩ := hrel
      have HX := Lib.hid hx
      have HL := Lib.hid hl
      have HI := Lib.hid hin
      have HPs := Lib.hid hps
      have HP0 := Lib.hid hp0
      clear hx hl hin hps hp0
      by_cases hlt : i < n5
      · obtain ⟨g, o, x, rfl, _, hmem, hd, hrx⟩ := HI.out.lt_at hlt
        have HRx := Lib.hid hrx
        have hix := HIX.out wr g o n5 c5 i hlt
        have hwr : IntKind.i64.wrap ((i : Int) + 1) = (i : Int) + 1 := IntWalk.i64_in _ (by have := HLn.out; have := H16.out; omega)
        have hxi := HLt.out x hmem
        have hrest := (paid_rng (ls := q.ls.drop (i + 1)) fun z hz => HLt.out z (List.mem_of_mem_drop hz)).1
        have hpx : paidS (q.ls.drop i) = paid1 x + paidS (q.ls.drop (i + 1)) := by rw [hd]; rfl
        have hps2 := HPs.out
        have hpr := HPr.out
        have h16 := H16.out
        have ham := isM_yes hxi.am2
        by_cases h5 : x.st = 5
        · have hq1 : paid1 x = x.am := by unfold paid1; rw [if_pos h5]
          have d5 : (x.st == 5) = true := by simp [h5]
          have hwp : IntKind.i64.wrap (p + x.am) = p + x.am := IntWalk.i64_in _ (by have := HP0.out; omega)
          have HPn : Hid (0 ≤ p + x.am ∧ p + x.am + paidS (q.ls.drop (i + 1)) = paidS q.ls) := Lib.hid (by have := HP0.out; omega)
          clear hd hrx hmem hxi hrest hpx hps2 hpr h16 ham h5 hq1
          go_wp2_with (first
            | (refine wpList_load_mid rfl 39 (.tmp 25) rfl g (o + i * 6) rfl [.string (ba x.nm), .int .i64 x.st, .int .i64 x.am, .int .i64 x.du, .string (ba x.po), .string (ba x.pa)] _ HRx.out Tryz.underlying39 rfl (by kernel_rfl) ?_))
          go_roundw
          case rel => exact ⟨i + 1, p + x.am, by omega, by go_num, rfl, HPn.out.1, HPn.out.2, HX.out.alloc HX.out.size _, HL.out.alloc _, HI.out.alloc _⟩
          case measure => simp [intOf]; omega
        · have hq1 : paid1 x = 0 := by unfold paid1; rw [if_neg h5]
          have d5 : (x.st == 5) = false := by simp [h5]
          have HPn : Hid (0 ≤ p ∧ p + paidS (q.ls.drop (i + 1)) = paidS q.ls) := Lib.hid (by have := HP0.out; omega)
          clear hd hrx hmem hxi hrest hpx hps2 hpr h16 ham h5 hq1
          go_wp2_with (first
            | (refine wpList_load_mid rfl 39 (.tmp 25) rfl g (o + i * 6) rfl [.string (ba x.nm), .int .i64 x.st, .int .i64 x.am, .int .i64 x.du, .string (ba x.po), .string (ba x.pa)] _ HRx.out Tryz.underlying39 rfl (by kernel_rfl) ?_))
          go_roundw
          case rel => exact ⟨i + 1, p, by omega, by go_num, rfl, HPn.out.1, HPn.out.2, HX.out.alloc HX.out.size _, HL.out.alloc _, HI.out.alloc _⟩
          case measure => simp [intOf]; omega
      · have e9 : q.ls.drop i = [] := List.drop_of_length_le (by have := HLn.out; omega)
        have hpt : (q.tt == p) = true := by
          have h1 := HPs.out
          rw [e9] at h1
          have h2 := HTt.out
          simp [paidS] at h1
          simp; omega
        clear e9
        go_wp2_with (first
          | (refine wpList_load_blk rfl 25 (.tmp 3) rfl w3.heap.size rfl 25 [.int .i64 1, .int .i64 q.tt, .slice A5 n5 c5, .slice B5 m5 d5] _ HL.out Tryz.underlying25 rfl (by kernel_rfl) ?_)
          | (go_at_call 14; (with_reducible refine (HRi.out _ _ _ _ _ _ _ HI.out).mono ?_); rintro e w8 ⟨rfl, hb⟩; have X8 := Lib.hid (below_step HX.out hb); have L8 := Lib.hid (HL.out.through hb); have k0 := L8.out.cellAt (i := 0) rfl; have k1 := L8.out.cellAt (i := 1) rfl; clear hb))
        go_ret
        exact ⟨(by first | trivial | exact ret_b rfl), X8.out⟩

end Go.Proofs.YtfflkodgojiklaaGreatDoor
